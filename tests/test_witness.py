"""[39] and [41]: a session for each fault of the verdict, and no session with another fault."""

import time
import unittest

from onesession.apps import App
from onesession.deeds import all_deeds, is_deed
from onesession.errors import NoFault
from onesession.judging import all_faults, faults
from onesession.repairs import heals, least_compared, least_turned
from onesession.rules import PARTS, Rule
from onesession.running import begin, step
from onesession.verdict import is_reason, verdict, why
from onesession.witness import witness
from tests.model import Model
from tests.samples import LARGE, NOT_X, STRANGE, X, Y, YN, YNM, full_app, interface_app, largest_app, random_app, random_rule
from tests.samples import sources
from tests.test_conditions import form_app, handler_app, one_late, row_app, small_app
from tests.test_verdict import kept_of

R = ("slot", "r")
NEVER = ("word", "no")
BOTH = ("pair", (("yes", "no"), ("no", "no")), X, Y)


class WitnessCase(unittest.TestCase):
    def assert_witness(self, app, rule, kind, name, head=None):
        """There is a witness, which a second way to run and to judge sessions bears out; return it."""
        self.assertIn((kind, name), verdict(app, rule))
        found = why(app, rule, kind, name)
        if head is not None:
            self.assertEqual(found[:len(head)], head)
        told = witness(app, rule, kind, name)
        self.assertIs(type(told), list)
        self.assertGreater(len(told), 0)
        model = Model(app, rule)
        last = begin(app, rule)
        for deed in told:
            self.assertTrue(is_deed(app, deed))
            last = step(app, rule, last.standing, deed)
            model.do(deed)
        self.assertIn((kind, name), faults(app, rule, last), (rule.choice, found, told))
        self.assertIn((kind, name), model.faults())
        return told

    def assert_witnesses(self, app, rule):
        """There is a witness for each fault of the verdict; return the heads of their reasons."""
        heads = []
        for kind, name in verdict(app, rule):
            self.assert_witness(app, rule, kind, name)
            found = why(app, rule, kind, name)
            heads.append(found[:2] if kind == "sent" else found[:1])
        return heads


class EachFaultTest(WitnessCase):
    def test_drawn_apps(self):
        seen = {}
        for source in sources(160):
            app = source.choice((small_app, random_app) * 5 + (largest_app,))(source)
            kept = None
            for _ in range(5):
                rule = random_rule(source)
                kept = kept_of(app, rule)
                late = rule.turned("keep", "keep").turned("words", False).turned("newest", False).turned("saves", "nothing")
                for head in self.assert_witnesses(app, rule) + self.assert_witnesses(app, late):
                    key = (head, app.rows is not None)
                    seen[key] = seen.get(key, 0) + 1
                self.assertEqual(kept_of(app, rule), kept)
        for head in (("late",), ("return",), ("saved",), ("held",), ("way",), ("sent", "go"), ("sent", "saved"), ("sent", "late")):
            self.assertGreater(seen.get((head, True), 0), 3, head)
            self.assertGreater(seen.get((head, False), 0), 3, head)

    def test_each_value_of_each_part(self):
        # With each pair of values of two parts that a reason asks about.
        parts = [(part, value) for part, values in PARTS for value in values]
        for source in sources(len(parts), start=700):
            for part, value in parts:
                app = source.choice((small_app, random_app))(source)
                self.assert_witnesses(app, random_rule(source, **{part: value}))

    def test_a_new_list_each_time(self):
        app, rule = interface_app(), Rule(words=False)
        told = witness(app, rule, "unsettled", "d")
        kept = list(told)
        told.clear()
        self.assertEqual(witness(app, rule, "unsettled", "d"), kept)

    def test_no_fault(self):
        app = full_app()
        for rule in (Rule(), Rule(sending="go", words=False, saves="values", turn="loaded", timers="held")):
            told = verdict(app, rule)
            pairs = [(kind, name) for kind, name in all_faults(app) if (kind, name) not in told]
            pairs += [("unsettled", value) for value in (*STRANGE, *LARGE)] + [(value, "d") for value in (*STRANGE, *LARGE)]
            pairs += [("elder", "d"), ("barred", "h"), ("sent", "home"), ("unsettled", ["d"])]
            for kind, name in pairs:
                with self.assertRaises(NoFault) as caught:
                    witness(app, rule, kind, name)
                self.assertIs(caught.exception.kind, kind)
                self.assertIs(caught.exception.name, name)


class NoOtherFaultTest(unittest.TestCase):
    """No session has a fault that the verdict does not have."""

    def assert_no_other(self, source, app, rule, length, deeds_of):
        told = verdict(app, rule)
        last = begin(app, rule)
        self.assertEqual(faults(app, rule, last), [])
        for _ in range(length):
            last = step(app, rule, last.standing, deeds_of(source, all_deeds(app, last.standing)))
            for fault in faults(app, rule, last):
                self.assertIn(fault, told, rule.choice)

    def test_long_sessions(self):
        def any_deed(source, deeds):
            late = [deed for deed in deeds if deed[0] in ("land", "timer")]
            others = [deed for deed in deeds if deed[0] != "reopen"]
            draw = source.random()
            return source.choice(late if late and draw < 0.4 else others if draw < 0.97 else deeds)

        for source in sources(250, start=100):
            app = source.choice((small_app, random_app))(source)
            for _ in range(3):
                self.assert_no_other(source, app, random_rule(source), 100, any_deed)

    def test_sessions_that_are_often_opened_again(self):
        def often(source, deeds):
            heads = ("reopen", source.choice(("land", "set", "go", "send", "edit", "rowset")))
            return source.choice([deed for deed in deeds if deed[0] in heads])

        for source in sources(100, start=400):
            app = source.choice((small_app, random_app))(source)
            rule = random_rule(source, saves=source.choice(("records", "values")))
            self.assert_no_other(source, app, rule, 150, often)

    def test_sessions_with_rows_that_come_and_go(self):
        def rows(source, deeds):
            heads = source.choice((("add", "drop", "swap", "rowset"), ("land",), ("set", "go", "edit", "land", "send")))
            return source.choice([deed for deed in deeds if deed[0] in heads] or deeds)

        for source in sources(100, start=600):
            app = row_app(pages=(("home", ("g",), ("m", (X,))), ("view", (), ("m", (X,))))) if source.random() < 0.3 else random_app(source)
            if app.rows is not None:
                self.assert_no_other(source, app, random_rule(source), 150, rows)

    def test_sessions_with_ways_that_are_left(self):
        def ways(source, deeds):
            heads = source.choice((("go",), ("go",), ("set", "edit"), ("land",), ("press", "timer", "send")))
            return source.choice([deed for deed in deeds if deed[0] in heads] or deeds)

        for source in sources(150, start=800):
            app = source.choice((small_app, random_app))(source)
            rule = random_rule(source, turn="loaded", ask=source.choice(("needed", "needed", "eager")))
            self.assert_no_other(source, app, rule, 120, ways)


class LateTest(WitnessCase):
    def test_wanted_everywhere_and_on_a_page(self):
        for rule in (Rule(words=False), Rule(words=False, keep="clear"), Rule(words=False, code=False)):
            self.assert_witness(one_late(), rule, "unsettled", "d", ("late", None))
        for turn in ("once", "loaded"):
            for keep in ("keep", "clear"):
                rule = Rule(words=False, ask="needed", turn=turn, keep=keep)
                self.assert_witness(one_late(), rule, "unsettled", "d", ("late", "home"))
                app = one_late(home=(), other=("d",), other_guard=("map", ("no", "yes"), X))
                self.assert_witness(app, rule, "unsettled", "d", ("late", "view"))

    def test_code_alone_is_not_compared(self):
        app = one_late(editions=(("word", "no"), ("word", "yes")))
        self.assert_witness(app, Rule(code=False), "unsettled", "d", ("late",))

    def test_keep_clear_where_the_words_are_the_same(self):
        app = one_late(("map", ("yes", "yes"), X))
        self.assert_witness(app, Rule(words=False, keep="clear"), "unsettled", "d", ("late",))
        self.assertEqual(verdict(app, Rule(words=False)), [])

    def test_rows(self):
        for key in ("id", "place"):
            for ask in ("eager", "needed"):
                for keep in ("keep", "clear"):
                    rule = Rule(words=False, key=key, ask=ask, keep=keep)
                    self.assert_witness(row_app(), rule, "unsettled", "g", ("late",))

    def test_other_slots_on_the_page(self):
        late = (("d", "m", (X,)), ("e", "m", (BOTH,)), ("f", "n", (Y,)))
        pages = (("home", (), None), ("view", ("e", "d", "f"), ("n", (BOTH,))))
        app = App(YN, (("m", 1), ("n", 1)), (("x", "no"), ("y", "no")), pages, late=late, form=("e",))
        for turn in ("once", "loaded"):
            rule = Rule(words=False, ask="needed", turn=turn)
            for slot in ("d", "e", "f"):
                self.assert_witness(app, rule, "unsettled", slot, ("late",))


class ReturnTest(WitnessCase):
    def test_each_turn_and_one(self):
        for one in ("many", "one"):
            for turn in ("once", "loaded"):
                for keep in ("keep", "clear"):
                    for newest in (False, True):
                        rule = Rule(ask="needed", one=one, turn=turn, keep=keep, newest=newest)
                        self.assert_witness(one_late(), rule, "unsettled", "d", ("return", "home", "view"))
                        back = one_late(home=(), other=("d",))
                        self.assert_witness(back, rule, "unsettled", "d", ("return", "view", "home"))

    def test_nothing_is_compared_under_clear(self):
        for one in ("many", "one"):
            for turn in ("once", "loaded"):
                rule = Rule(ask="needed", one=one, turn=turn, keep="clear", words=False, code=False, newest=True)
                self.assert_witness(one_late(), rule, "unsettled", "d", ("return",))
                three = App(YNM, (("m", 2),), (("x", "yes"), ("y", "no")), (("home", ("d",), None), ("view", (), ("m", (X, Y)))),
                            late=(("d", "m", (Y, ("pair", (YNM, YNM, YNM), Y, X))),))
                self.assert_witness(three, rule, "unsettled", "d", ("return",))

    def test_neither_page_is_the_first_one(self):
        for home in ((), ("d",)):
            pages = (("home", home, None), ("view", ("d",), ("m", (X,))), ("last", (), ("m", (Y,))))
            app = App(YN, (("m", 1),), (("x", "no"), ("y", "no")), pages, late=(("d", "m", (BOTH,)),))
            for one in ("many", "one"):
                for turn in ("once", "loaded"):
                    for keep in ("keep", "clear"):
                        rule = Rule(ask="needed", one=one, turn=turn, keep=keep)
                        self.assert_witness(app, rule, "unsettled", "d", ("return",))

    def test_guards_that_let_in_few_states(self):
        # The page lets only where x and y are yes, and it can be left only where they are both no.
        neither = ("pair", (("no", "no"), ("no", "yes")), X, Y)
        pages = (("home", (), ("m", (neither,))), ("view", ("d",), ("m", (BOTH,))))
        app = App(YN, (("m", 1),), (("x", "no"), ("y", "yes")), pages, late=(("d", "m", (X,)),))
        for one in ("many", "one"):
            for keep in ("keep", "clear"):
                rule = Rule(ask="needed", one=one, keep=keep)
                if one == "many":
                    self.assertEqual(verdict(app, rule), [])
                else:
                    self.assert_witness(app, rule, "unsettled", "d", ("return",))
                self.assert_witness(app, rule.turned("turn", "loaded"), "unsettled", "d", ("return",))

    def test_an_edition_that_is_not_the_first_one(self):
        app = one_late(editions=(X, ("word", "yes")), home_guard=("word", "yes"))
        pages = (("home", (), None), ("view", ("d",), ("m", (NEVER, X))))
        app = App(YN, (("m", 2),), (("x", "no"),), pages, late=(("d", "m", (X, ("word", "yes"))),))
        for one in ("many", "one"):
            for turn in ("once", "loaded"):
                self.assert_witness(app, Rule(ask="needed", one=one, turn=turn), "unsettled", "d", ("return",))

    def test_an_elder_act_that_would_be_taken_with_the_due_word(self):
        # Only the editions are told apart; where x alone is another one, d is the same, so the first act must not be taken.
        exprs = (("map", ("yes", "yes"), X), NOT_X)
        app = App(YN, (("m", 2),), (("x", "no"),), (("home", ("d",), None), ("view", (), None)), late=(("d", "m", exprs),))
        rule = Rule(words=False, one="one", ask="needed")
        self.assertEqual(why(app, rule, "unsettled", "d")[3], (("yes",), (0,), None))
        self.assert_witness(app, rule, "unsettled", "d", ("return",))

    def test_a_spot_that_is_some_steps_away_under_clear(self):
        neither = ("pair", (("no", "no"), ("no", "yes")), X, Y)
        pages = (("home", ("d",), ("m", (neither,))), ("view", (), None))
        for first in (("yes", "no"), ("yes", "yes"), ("no", "no")):
            app = App(YN, (("m", 1),), (("x", first[0]), ("y", first[1])), pages, late=(("d", "m", (BOTH,)),))
            rule = Rule(words=False, code=False, keep="clear", one="one", ask="needed")
            self.assertEqual(why(app, rule, "unsettled", "d")[3:5], ((("no", "no"), (0,), None), (("yes", "yes"), (0,), None)))
            self.assert_witness(app, rule, "unsettled", "d", ("return",))

    def test_rows(self):
        for pages in ((("home", ("g",), None), ("view", (), None)), (("home", (), None), ("view", ("g",), None)),
                      (("home", ("g",), None), ("view", ("g",), None), ("last", (), None))):
            for key in ("id", "place"):
                for one in ("many", "one"):
                    for turn in ("once", "loaded"):
                        for keep in ("keep", "clear"):
                            rule = Rule(ask="needed", one=one, turn=turn, keep=keep, key=key)
                            self.assert_witness(row_app(pages=pages), rule, "unsettled", "g", ("return",))


class SavedTest(WitnessCase):
    def test_records(self):
        for one in ("many", "one"):
            for keep in ("keep", "clear"):
                for turn in ("once", "loaded"):
                    rule = Rule(saves="records", one=one, keep=keep, turn=turn)
                    self.assert_witness(one_late(), rule, "unsettled", "d", ("saved", None))
                    rule = rule.turned("ask", "needed").turned("words", False).turned("code", False).turned("newest", True)
                    app = one_late(home=(), other=("d",), other_guard=("map", ("no", "yes"), X))
                    if keep == "keep":
                        self.assert_witness(app, rule, "unsettled", "d", ("saved", "view"))
                    self.assert_witness(one_late(other=("d",)), rule, "unsettled", "d", ("saved", "home"))

    def test_values(self):
        for again in ("change", "match"):
            for one in ("many", "one"):
                for turn in ("once", "loaded"):
                    rule = Rule(saves="values", again=again, one=one, turn=turn, newest=True)
                    self.assert_witness(one_late(), rule, "unsettled", "d", ("saved", None))
                    rule = rule.turned("ask", "needed").turned("words", False).turned("code", False)
                    app = one_late(home=(), other=("d",), other_guard=("map", ("no", "yes"), X))
                    self.assert_witness(app, rule, "unsettled", "d", ("saved", "view"))
                    self.assert_witness(one_late(other=("d",)), rule, "unsettled", "d", ("saved", "home"))

    def test_another_act_is_begun_when_the_session_is_opened_again(self):
        # The act of e of the first state is under way, so e is asked for in the state of view when nothing is under way any more.
        late = (("d", "m", (X,)), ("e", "m", (X,)))
        pages = (("home", ("e",), None), ("view", ("d",), ("m", (NOT_X,))))
        app = App(YN, (("m", 1),), (("x", "yes"),), pages, late=late)
        for turn in ("once", "loaded"):
            rule = Rule(saves="records", one="one", ask="needed", turn=turn, words=False, newest=True)
            told = self.assert_witness(app, rule, "unsettled", "d", ("saved", "view"))
            self.assertEqual(told[-1], ("land", 0))

    def test_another_edition(self):
        app = one_late(editions=(("word", "yes"), ("word", "no")))
        told = self.assert_witness(app, Rule(saves="values"), "unsettled", "d", ("saved",))
        self.assertIn("reopen", [deed[0] for deed in told])

    def test_rows(self):
        for saves in ("records", "values"):
            for key in ("id", "place"):
                for ask in ("eager", "needed"):
                    for turn in ("once", "loaded"):
                        for pages in ((("home", ("g",), None), ("view", (), None)), (("home", (), None), ("view", ("g",), ("m", (X,))))):
                            rule = Rule(saves=saves, key=key, ask=ask, turn=turn, words=False, code=False, newest=True)
                            app = App(YN, (("m", 1),), (("x", "no"),), pages, rows=("r", "no", "g", "m", (R,)))
                            self.assert_witness(app, rule, "unsettled", "g", ("saved",))


class HandlerTest(WitnessCase):
    def test_now(self):
        for swap in ("renew", "keep"):
            rule = Rule(holds="listed", swap=swap)
            self.assert_witness(handler_app(), rule, "elder", "h", ("held",))
            self.assert_witness(handler_app(page="view", guard=("map", ("no", "yes"), X)), rule, "elder", "h", ("held",))
            self.assert_witness(handler_app(page="view", guard=X, inputs=(("x", "no"), ("y", "no"))), rule.turned("turn", "loaded"),
                                "elder", "h", ("held",))

    def test_another_edition_is_kept(self):
        app = handler_app(exprs=(("word", "yes"), ("word", "no")))
        self.assert_witness(app, Rule(holds="listed", swap="keep"), "elder", "h", ("held",))
        self.assertEqual(verdict(app, Rule(holds="listed", swap="renew")), [])

    def test_a_walk_of_several_steps(self):
        # a is the same where x and y are both yes and both no, and where they are unlike, but from the one to the other it changes.
        both = ("pair", (("yes", "yes"), ("yes", "no")), X, Y)
        made = (("a", "m", (both,)),)
        handlers = (("h", "m", "home", "x", (BOTH,), ("a",), "now"),)
        app = App(YN, (("m", 1),), (("x", "no"), ("y", "no")), (("home", (), None),), made=made, handlers=handlers)
        self.assert_witness(app, Rule(holds="listed"), "elder", "h", ("held",))
        three = (("pair", (("yes", "no", "no"), ("no", "no", "no"), ("no", "no", "may")), X, Y),)
        handlers = (("h", "m", "home", "x", three, (), "now"),)
        app = App(YNM, (("m", 1),), (("x", "no"), ("y", "may")), (("home", (), None),), handlers=handlers)
        self.assert_witness(app, Rule(holds="listed"), "elder", "h", ("held",))

    def test_later(self):
        for holds in ("listed", "now"):
            for swap in ("renew", "keep"):
                rule = Rule(holds=holds, swap=swap, timers="held")
                for listed in ((), ("x",)):
                    app = handler_app(when="later", listed=listed)
                    self.assert_witness(app, rule, "elder", "h", ("held",))
                    app = handler_app(when="later", listed=listed, page="view", guard=X, inputs=(("x", "no"), ("y", "no")))
                    self.assert_witness(app, rule, "elder", "h", ("held",))
                    self.assert_witness(app, rule.turned("turn", "loaded"), "elder", "h", ("held",))

    def test_a_page_with_needs_under_loaded(self):
        late = (("d", "m", (X,)), ("e", "m", (BOTH,)))
        pages = (("home", ("e",), None), ("view", ("d", "e"), ("m", (BOTH,))))
        handlers = (("h", "m", "view", "x", (NOT_X,), (), "now"), ("k", "m", "view", "y", (X,), ("y",), "later"))
        app = App(YN, (("m", 1),), (("x", "no"), ("y", "no")), pages, late=late, handlers=handlers)
        for source in sources(60):
            rule = random_rule(source, turn="loaded", holds="listed", timers="held")
            self.assert_witness(app, rule, "elder", "h")
            self.assert_witness(app, rule, "elder", "k")


class PageTest(WitnessCase):
    RULES = [{"again": again, "one": one, "keep": keep, "ask": ask, "newest": newest, "words": words}
             for again in ("change", "match") for one in ("many", "one") for keep in ("keep", "clear")
             for ask in ("eager", "needed") for newest in (False, True) for words in (False, True)]

    def each(self):
        for parts in self.RULES:
            yield Rule(turn="loaded", **parts)

    def test_not_the_first_page(self):
        for guard in (X, NOT_X):
            app = one_late(home=(), other=("d",), other_guard=guard)
            for rule in self.each():
                self.assert_witness(app, rule, "barred", "view", ("way", None))

    def test_only_rows_are_needed(self):
        app = row_app(pages=(("home", (), None), ("view", ("g",), ("m", (NOT_X,)))))
        first = row_app(pages=(("home", ("g",), ("m", (NOT_X,))), ("view", (), None)))
        same = row_app(pages=(("home", ("g",), ("m", (NOT_X,))), ("view", ("g",), None)))
        for rule in self.each():
            for key in ("id", "place"):
                self.assert_witness(app, rule.turned("key", key), "barred", "view", ("way", None))
                self.assert_witness(first, rule.turned("key", key), "barred", "home", ("way", "view"))
                self.assert_witness(same, rule.turned("key", key), "barred", "home", ("way", "view"))

    def test_the_first_page(self):
        # d is not needed on view; e is needed on both.
        late = (("d", "m", (X,)), ("e", "m", (BOTH,)))
        pages = (("home", ("e", "d"), ("m", (X,))), ("view", ("e",), ("m", (NOT_X,))))
        app = App(YN, (("m", 1),), (("x", "yes"), ("y", "no")), pages, late=late, form=("d",))
        for rule in self.each():
            self.assert_witness(app, rule, "barred", "home", ("way", "view"))

    def test_the_first_page_under_clear(self):
        late = (("c", "m", (("word", "no"),)), ("d", "m", (X,)))
        pages = (("home", ("c", "d"), ("m", (Y,))), ("view", ("d", "c"), ("m", (BOTH,))))
        for first in YN:
            app = App(YN, (("m", 1),), (("x", first), ("y", "no")), pages, late=late)
            for rule in self.each():
                if rule.keep == "clear":
                    self.assert_witness(app, rule, "barred", "home", ("way", "view"))
                else:
                    self.assertNotIn(("barred", "home"), verdict(app, rule))

    def test_another_edition(self):
        app = App(YN, (("m", 2),), (("x", "yes"),), (("home", (), None), ("view", ("d",), ("m", (NEVER, ("word", "yes"))))),
                  late=(("d", "m", (X, X)),))
        for rule in self.each():
            told = self.assert_witness(app, rule, "barred", "view", ("way", None))
            self.assertEqual(told[0], ("edit", "m", 1))


class FormTest(WitnessCase):
    def test_go(self):
        app = form_app(form=("d", "a"), made=(("a", "m", (Y,)),))
        for again in ("change", "match"):
            for name in ("d", "a"):
                self.assert_witness(app, Rule(sending="go", again=again), "sent", name, ("sent", "go"))

    def test_late(self):
        for sending in ("bar", "wait"):
            rule = Rule(words=False, sending=sending)
            self.assert_witness(form_app(), rule, "sent", "d", ("sent", "late"))
            made = form_app(form=("a", "d"), made=(("a", "m", (Y,)),), inputs=(("x", "no"), ("y", "no")))
            self.assert_witness(made, rule, "sent", "d", ("sent", "late"))
            self.assertNotIn(("sent", "a"), verdict(made, rule))

    def test_two_late_checks(self):
        # Where both are wrong, each is right in a state of its own.
        for other in (Y, X, NOT_X, BOTH):
            app = form_app(form=("e", "d"), late=(("d", "m", (X,)), ("e", "m", (other,))), inputs=(("x", "no"), ("y", "no")))
            for rule in (Rule(words=False), Rule(words=False, code=False, sending="wait"), Rule(saves="values"),
                         Rule(saves="records"), Rule(saves="records", one="one"), Rule(saves="values", again="match", one="one"),
                         Rule(saves="values", again="match"), Rule(saves="values", one="one", newest=True, sending="wait")):
                for name in ("d", "e"):
                    self.assert_witness(app, rule, "sent", name, ("sent",))

    def test_two_checks_of_which_one_is_right(self):
        app = form_app(form=("d", "e"), late=(("d", "m", (X,)), ("e", "m", (("word", "yes"),))))
        for rule in (Rule(words=False), Rule(saves="values"), Rule(saves="records", one="one")):
            self.assert_witness(app, rule, "sent", "d", ("sent",))
            self.assertNotIn(("sent", "e"), verdict(app, rule))

    def test_saved(self):
        for saves in ("records", "values"):
            for one in ("many", "one"):
                for sending in ("bar", "wait"):
                    rule = Rule(saves=saves, one=one, sending=sending)
                    self.assert_witness(form_app(), rule, "sent", "d", ("sent", "saved"))
                    made = form_app(form=("a", "d"), made=(("a", "m", (Y,)),), inputs=(("x", "no"), ("y", "no")))
                    self.assert_witness(made, rule, "sent", "d", ("sent", "saved"))

    def test_other_editions(self):
        app = form_app(late=(("d", "m", (("word", "no"), ("word", "yes"))),), count=2)
        for rule in (Rule(code=False), Rule(saves="values"), Rule(saves="records"), Rule(sending="go")):
            self.assert_witness(app, rule, "sent", "d")
        turned = form_app(late=(("d", "m", (("word", "yes"), ("word", "no"))),), count=2)
        for rule in (Rule(code=False), Rule(saves="values"), Rule(saves="records"), Rule(sending="go")):
            self.assert_witness(turned, rule, "sent", "d")


class InTheWayTest(WitnessCase):
    def test_other_handlers_guards_and_checks(self):
        """An app in which each fault can be, with all that may stand in its way."""
        late = (("d", "m", (X, NOT_X)), ("e", "n", (BOTH,)), ("f", "m", (Y, ("word", "yes"))))
        pages = (("home", ("d", "e"), ("n", (X,))), ("view", ("f", "d", "g"), ("m", (BOTH, Y))), ("last", (), ("n", (NOT_X,))))
        handlers = (("h", "m", "view", "x", (NOT_X, X), ("y",), "now"), ("k", "n", "last", "y", (BOTH,), ("x", "a"), "later"))
        app = App(YN, (("m", 2), ("n", 1)), (("x", "no"), ("y", "no")), pages, made=(("a", "m", (X, Y)),), late=late,
                  rows=("r", "no", "g", "m", (R, BOTH)), handlers=handlers, form=("a", "e"))
        heads = set()
        for source in sources(300):
            heads.update(self.assert_witnesses(app, random_rule(source)))
        for source in sources(100):
            heads.update(self.assert_witnesses(app, random_rule(source, turn="loaded", guard="begin", sending="bar", words=False,
                                                                code=False, newest=False, again="change", one="many")))
        self.assertLessEqual({("late",), ("return",), ("saved",), ("held",), ("way",), ("sent", "go"), ("sent", "late")}, heads)


class LargestTest(unittest.TestCase):
    def test_the_largest_apps_are_answered_in_a_short_time(self):
        for source in sources(3, start=50):
            app = largest_app(source)
            candidates = [("rule", "again", "match"), ("rule", "saves", "nothing"), ("rule", "keep", "clear"),
                          ("guard", "view", None), ("needs", "home", ()), ("when", "h", "later")]
            start = time.process_time()
            for _ in range(3):
                rule = random_rule(source)
                for kind, name in verdict(app, rule):
                    self.assertTrue(is_reason(app, rule, kind, name, why(app, rule, kind, name)))
                    witness(app, rule, kind, name)
                least_compared(app, rule)
                least_turned(app, rule, [part for part, _ in PARTS])
                for kind in ("unsettled", "elder", "barred", "sent"):
                    heals(app, rule, kind, candidates)
            self.assertLess(time.process_time() - start, 30)


if __name__ == "__main__":
    unittest.main()
