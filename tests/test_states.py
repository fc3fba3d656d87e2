"""[9] States and calls."""

import itertools
import unittest

from onesession.apps import App
from onesession.exprs import reads, value
from onesession.standings import call_at, handler_call, lets, listed_now, outcome, result_of, states, words_now
from tests.samples import BOTH, NOT_X, X, Y, YN, YNM, copied, full_app, interface_app, random_app, sources

A = ("slot", "a")
B = ("slot", "b")
R = ("slot", "r")
AND = (("yes", "no"), ("no", "no"))


class StatesTest(unittest.TestCase):
    def test_the_order(self):
        app = App(YN, (("m", 2), ("n", 2)), (("x", "no"), ("y", "no")), (("home", (), None),))
        expected = [(inputs, editions) for inputs in itertools.product(YN, YN)
                    for editions in itertools.product((0, 1), (0, 1))]
        self.assertEqual(states(app), expected)
        self.assertEqual(states(app)[:6], [
            (("yes", "yes"), (0, 0)), (("yes", "yes"), (0, 1)), (("yes", "yes"), (1, 0)), (("yes", "yes"), (1, 1)),
            (("yes", "no"), (0, 0)), (("yes", "no"), (0, 1))])

    def test_the_words_have_their_order_and_not_that_of_letters(self):
        app = App(("yes", "may", "no"), (("m", 1),), (("x", "no"),), (("home", (), None),))
        self.assertEqual(states(app), [(("yes",), (0,)), (("may",), (0,)), (("no",), (0,))])

    def test_how_many_there_are(self):
        app = App(YNM, (("m", 1), ("n", 2)), (("x", "no"), ("y", "no"), ("z", "no")), (("home", (), None),))
        self.assertEqual(len(states(app)), 54)
        self.assertEqual(states(app)[0], (("yes", "yes", "yes"), (0, 0)))
        self.assertEqual(states(app)[-1], (("may", "may", "may"), (0, 1)))

    def test_a_new_list_each_time(self):
        app = interface_app()
        first = states(app)
        expected = list(first)
        first.append("more")
        first.pop(0)
        self.assertEqual(states(app), expected)
        self.assertIsNot(states(app), states(app))


class WordsNowTest(unittest.TestCase):
    def test_inputs_alone(self):
        app = interface_app()
        self.assertEqual(words_now(app, ("no",), (1,)), (("x", "no"),))

    def test_made_slots_that_read_earlier_made_slots(self):
        made = (("a", "m", (NOT_X,)), ("b", "m", (("map", ("no", "yes"), A),)), ("c", "m", (("pair", AND, A, B),)))
        app = App(YN, (("m", 1),), (("x", "no"), ("y", "no")), (("home", (), None),), made=made)
        given = words_now(app, ("yes", "no"), (0,))
        self.assertEqual(given, (("x", "yes"), ("y", "no"), ("a", "no"), ("b", "yes"), ("c", "no")))

    def test_made_slots_that_have_editions(self):
        app = full_app()
        self.assertEqual(words_now(app, ("yes", "no"), (0, 0)), (("x", "yes"), ("y", "no"), ("a", "no"), ("b", "no")))
        self.assertEqual(words_now(app, ("no", "no"), (0, 0)), (("x", "no"), ("y", "no"), ("a", "yes"), ("b", "no")))
        self.assertEqual(words_now(app, ("no", "no"), (0, 1)), (("x", "no"), ("y", "no"), ("a", "yes"), ("b", "yes")))

    def test_each_slot_has_the_edition_of_its_own_module(self):
        made = (("a", "m", (X, Y)), ("b", "n", (X, Y)))
        app = App(YN, (("n", 2), ("m", 2)), (("x", "yes"), ("y", "no")), (("home", (), None),), made=made)
        self.assertEqual(words_now(app, ("yes", "no"), (0, 1))[2:], (("a", "no"), ("b", "yes")))
        self.assertEqual(words_now(app, ("yes", "no"), (1, 0))[2:], (("a", "yes"), ("b", "no")))


class CallsTest(unittest.TestCase):
    def test_exactly_the_slots_that_are_read_in_their_order(self):
        late = (("d", "m", (X, ("pair", AND, Y, X), ("word", "no"))[:2]), ("e", "m", (("word", "no"), NOT_X)))
        app = App(YN, (("m", 2),), (("x", "yes"), ("y", "no")), (("home", (), None),), late=late)
        self.assertEqual(call_at(app, "d", ("yes", "no"), (0,)), (0, (("x", "yes"),)))
        self.assertEqual(call_at(app, "d", ("yes", "no"), (1,)), (1, (("y", "no"), ("x", "yes"))))
        self.assertEqual(call_at(app, "e", ("yes", "no"), (0,)), (0, ()))
        self.assertEqual(call_at(app, "e", ("no", "no"), (1,)), (1, (("x", "no"),)))

    def test_made_slots_in_a_call(self):
        app = full_app()
        self.assertEqual(call_at(app, "d", ("no", "yes"), (0, 1)), (1, (("b", "yes"),)))

    def test_the_word_of_a_row(self):
        app = full_app()
        for word in YN:
            self.assertEqual(call_at(app, "g", ("no", "yes"), (0, 0), word), (0, (("r", word),)))
            self.assertEqual(call_at(app, "g", ("no", "yes"), (0, 0), row_word=word), (0, (("r", word),)))
            self.assertEqual(call_at(app, "g", ("no", "yes"), (0, 1), word), (1, (("x", "no"),)))

    def test_the_word_of_a_row_between_other_slots(self):
        rows = ("r", "no", "g", "m", (("pair", AND, Y, ("pair", AND, R, A)),))
        app = App(YN, (("m", 1),), (("x", "no"), ("y", "no")), (("home", (), None),), made=(("a", "m", (NOT_X,)),), rows=rows)
        expected = (0, (("y", "no"), ("r", "yes"), ("a", "no")))
        self.assertEqual(call_at(app, "g", ("yes", "no"), (0,), "yes"), expected)

    def test_for_other_slots_the_word_of_a_row_is_ignored(self):
        app = full_app()
        for slot in ("d", "e"):
            plain = call_at(app, slot, ("no", "yes"), (0, 1))
            for word in ("yes", "no", None):
                self.assertEqual(call_at(app, slot, ("no", "yes"), (0, 1), row_word=word), plain)

    def test_result_of(self):
        app = full_app()
        self.assertEqual(result_of(app, "d", (0, (("x", "no"),))), "no")
        self.assertEqual(result_of(app, "d", (1, (("b", "yes"),))), "yes")
        self.assertEqual([result_of(app, "e", (0, (("x", x), ("y", y)))) for x in YN for y in YN],
                         ["yes", "no", "no", "no"])
        self.assertEqual(result_of(app, "g", (0, (("r", "no"),))), "no")
        self.assertEqual(result_of(app, "g", (1, (("x", "yes"),))), "yes")

    def test_many_calls_against_the_words_of_the_document(self):
        for source in sources(60):
            app = random_app(source)
            for inputs, editions in states(app):
                given = words_now(app, inputs, editions)
                for slot in app.late_slots:
                    module, exprs = app.exprs_of(slot)
                    edition = dict(zip(app.module_names, editions))[module]
                    word = source.choice(app.words)
                    words = {**dict(given), **({"r": word} if app.rows else {})}
                    call = call_at(app, slot, inputs, editions, word)
                    self.assertEqual(call, (edition, tuple((name, words[name]) for name in reads(exprs[edition]))))
                    self.assertEqual(result_of(app, slot, call), value(app.words, exprs[edition], call[1]))


class GuardsTest(unittest.TestCase):
    def test_no_guard_lets(self):
        app = full_app()
        for inputs, editions in states(app):
            self.assertIs(lets(app, "home", inputs, editions), True)

    def test_a_guard_lets_if_it_has_the_right_word(self):
        app = full_app()
        for inputs, editions in states(app):
            self.assertIs(lets(app, "view", inputs, editions), inputs[0] == "yes")
            self.assertIs(lets(app, "last", inputs, editions), inputs[editions[1]] == "yes")

    def test_the_right_word_is_the_first_one(self):
        pages = (("home", (), ("m", (X,))),)
        app = App(("may", "yes", "no"), (("m", 1),), (("x", "no"),), pages)
        self.assertEqual([lets(app, "home", (word,), (0,)) for word in app.words], [True, False, False])

    def test_a_guard_may_read_made_slots(self):
        pages = (("home", (), ("m", (A,))),)
        app = App(YN, (("m", 1),), (("x", "no"),), pages, made=(("a", "m", (NOT_X,)),))
        self.assertEqual([lets(app, "home", (word,), (0,)) for word in YN], [False, True])


class HandlersTest(unittest.TestCase):
    def test_calls_and_outcomes(self):
        app = full_app()
        self.assertEqual(handler_call(app, "h", ("no", "yes"), (0, 1)), (0, (("x", "no"),)))
        self.assertEqual(handler_call(app, "k", ("no", "yes"), (0, 0)), (0, (("x", "no"),)))
        self.assertEqual(handler_call(app, "k", ("no", "yes"), (0, 1)), (1, (("y", "yes"),)))
        self.assertEqual(outcome(app, "h", (0, (("x", "no"),))), "yes")
        self.assertEqual(outcome(app, "k", (0, (("x", "no"),))), "no")
        self.assertEqual(outcome(app, "k", (1, (("y", "yes"),))), "yes")

    def test_a_call_of_several_slots(self):
        handlers = (("h", "m", "home", "x", (("pair", AND, A, ("pair", AND, Y, X)),), (), "now"),)
        app = App(YN, (("m", 1),), (("x", "no"), ("y", "yes")), (("home", (), None),), made=(("a", "m", (NOT_X,)),),
                  handlers=handlers)
        call = handler_call(app, "h", ("no", "yes"), (0,))
        self.assertEqual(call, (0, (("a", "yes"), ("y", "yes"), ("x", "no"))))
        self.assertEqual(outcome(app, "h", call), "no")

    def test_listed_words(self):
        app = full_app()
        self.assertEqual(listed_now(app, "h", ("no", "yes"), (0, 0)), ("no", "yes"))
        self.assertEqual(listed_now(app, "h", ("yes", "yes"), (0, 0)), ("yes", "no"))
        self.assertEqual(listed_now(app, "k", ("no", "yes"), (0, 0)), ())
        handlers = (("h", "m", "home", "x", (X,), ("b", "y", "x"), "now"),)
        app = full_app(handlers=handlers)
        self.assertEqual(listed_now(app, "h", ("no", "yes"), (0, 0)), ("yes", "yes", "no"))

    def test_nothing_that_is_passed_is_changed(self):
        app = full_app()
        inputs, editions, call = ("no", "yes"), (0, 1), (0, (("x", "no"),))
        before = copied((inputs, editions, call))
        for _ in range(2):
            words_now(app, inputs, editions)
            call_at(app, "d", inputs, editions)
            result_of(app, "d", call)
            lets(app, "view", inputs, editions)
            handler_call(app, "h", inputs, editions)
            outcome(app, "h", call)
            listed_now(app, "h", inputs, editions)
        self.assertEqual((inputs, editions, call), before)
        self.assertEqual(app, full_app())


if __name__ == "__main__":
    unittest.main()
