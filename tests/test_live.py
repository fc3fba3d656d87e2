"""[20]: live sessions."""

import unittest

from onesession.apps import App
from onesession.errors import BadDeed, NoSlot
from onesession.judging import all_faults, faults
from onesession.live import Live
from onesession.rules import Rule
from onesession.running import Step, begin, step
from onesession.screens import screen
from onesession.standings import words_now
from tests.samples import STRANGE, X, YN, after, copied, full_app, interface_app, random_app, random_deed, random_rule
from tests.samples import sources

R = ("slot", "r")
HOME = (("home", (), None),)


def kept_of(live):
    """What a live session tells of itself, to see later whether it has changed."""
    return copied((live.standing, live.last.standing, live.last.events, live.done, live.undone))


def turns(app):
    """For each method, a call with right arguments and the deed that it does."""
    return [
        (lambda live: live.land(0), ("land", 0)),
        (lambda live: live.land(7), ("land", 7)),
        (lambda live: live.edit("n", 1), ("edit", "n", 1)),
        (lambda live: live.add_row(2), ("add", 2)),
        (lambda live: live.set_row(2, "yes"), ("rowset", 2, "yes")),
        (lambda live: live.add_row(1), ("add", 1)),
        (lambda live: live.swap_rows(0), ("swap", 0)),
        (lambda live: live.drop_row(2), ("drop", 2)),
        (lambda live: live.press("h"), ("press", "h")),
        (lambda live: live.go("view"), ("go", "view")),
        (lambda live: live.press("k"), ("press", "k")),
        (lambda live: live.fire_timer(0), ("timer", 0)),
        (lambda live: live.fire_timer(3), ("timer", 3)),
        (lambda live: live.send(), ("send",)),
        (lambda live: live.reopen((0, 1)), ("reopen", (0, 1))),
    ]


def calls_with(value):
    """For each method, a call with a value as an argument, and the deed that it names."""
    return [
        (lambda live: live.do(value), value),
        (lambda live: live.land(value), ("land", value)),
        (lambda live: live.edit("m", value), ("edit", "m", value)),
        (lambda live: live.edit(value, 0), ("edit", value, 0)),
        (lambda live: live.set_row(1, value), ("rowset", 1, value)),
        (lambda live: live.set_row(value, "yes"), ("rowset", value, "yes")),
        (lambda live: live.add_row(value), ("add", value)),
        (lambda live: live.drop_row(value), ("drop", value)),
        (lambda live: live.swap_rows(value), ("swap", value)),
        (lambda live: live.go(value), ("go", value)),
        (lambda live: live.press(value), ("press", value)),
        (lambda live: live.fire_timer(value), ("timer", value)),
        (lambda live: live.reopen(value), ("reopen", value)),
    ]


class BeginningTest(unittest.TestCase):
    def test_begun_anew(self):
        app, rule = full_app(), Rule(one="one")
        live = Live(app, rule)
        first = begin(app, rule)
        self.assertEqual((live.app, live.rule), (app, rule))
        self.assertIsInstance(live.last, Step)
        self.assertEqual((live.last.standing, live.last.events), (first.standing, first.events))
        self.assertEqual((live.standing, live.done, live.undone), (first.standing, (), ()))
        self.assertEqual(len(live), 0)
        self.assertEqual(live.seen_faults(), [])

    def test_begun_in_a_given_standing(self):
        app, rule = full_app(), Rule(words=False)
        given = after(app, rule, ("set", "x", "no"), ("add", 3)).standing
        kept = copied(given)
        live = Live(app, rule, standing=given)
        self.assertEqual((live.standing, live.last.standing, live.last.events), (kept, kept, ()))
        self.assertEqual((live.done, live.undone, len(live)), ((), (), 0))
        live.do(("set", "x", "yes"))
        live.undo()
        self.assertEqual((live.standing, live.last.events, given), (kept, (), kept))

    def test_a_given_standing_is_not_settled_anew(self):
        app = interface_app()
        # Under another rule more would be begun; the standing of the one is taken as it is.
        standing = begin(app, Rule(ask="needed")).standing
        live = Live(app, Rule(), standing=standing)
        self.assertEqual((live.standing, live.last.events), (standing, ()))

    def test_none_begins_anew(self):
        app, rule = interface_app(), Rule()
        self.assertEqual(Live(app, rule, standing=None).last.events, (("begun", "d", 0),))

    def test_the_faults_of_a_given_standing(self):
        app, rule = interface_app(), Rule(words=False)
        given = after(app, rule, ("set", "x", "no"), ("land", 1), ("land", 0)).standing
        live = Live(app, rule, standing=given)
        self.assertEqual(live.faults(), [("unsettled", "d")])
        self.assertEqual(live.seen_faults(), [("unsettled", "d")])


class DoingTest(unittest.TestCase):
    def test_do(self):
        app, rule = interface_app(), Rule()
        live = Live(app, rule)
        told = live.do(("set", "x", "no"))
        expected = step(app, rule, begin(app, rule).standing, ("set", "x", "no"))
        self.assertIsInstance(told, Step)
        self.assertEqual((told.standing, told.events), (expected.standing, expected.events))
        self.assertEqual((live.last.standing, live.last.events), (expected.standing, expected.events))
        self.assertEqual((live.standing, live.done, live.undone), (expected.standing, (("set", "x", "no"),), ()))
        self.assertEqual(len(live), 1)

    def test_deeds_that_do_nothing_are_done_as_well(self):
        live = Live(interface_app(), Rule())
        standing = live.standing
        self.assertEqual(live.do(("land", 9)).events, ())
        self.assertEqual(live.do(("set", "x", "yes")).events, ())
        self.assertEqual((live.standing, live.done), (standing, (("land", 9), ("set", "x", "yes"))))
        self.assertEqual(len(live), 2)

    def test_each_method(self):
        app = full_app()
        for rule in (Rule(), Rule(again="match", turn="loaded", holds="listed", sending="wait", saves="values")):
            live = Live(app, rule)
            standing, done = live.standing, ()
            for turn, deed in turns(app):
                expected = step(app, rule, standing, deed)
                told = turn(live)
                self.assertIs(type(told), tuple)
                self.assertEqual(told, expected.events)
                standing, done = expected.standing, done + (deed,)
                self.assertEqual((live.standing, live.last.standing, live.done), (standing, standing, done))
                self.assertEqual(live.last.events, expected.events)
            self.assertEqual(live.app, app)
            self.assertEqual(live.rule, rule)

    def test_wrong_arguments(self):
        live = Live(full_app(), Rule())
        live.do(("set", "x", "no"))
        live.do(("add", 1))
        live.undo()
        kept = kept_of(live)
        numbers = (0, 1, 10 ** 30)
        wrong = [value for value in STRANGE if not (type(value) is int and value in numbers)]
        for value in [*wrong, "h h", ["land", 0], ("land", False), (0, 2), (0, True), [0, 0], (0,)]:
            for turn, deed in calls_with(value):
                with self.assertRaises(BadDeed, msg=repr(deed)) as caught:
                    turn(live)
                self.assertEqual(repr(caught.exception.deed), repr(deed))
                self.assertEqual(kept_of(live), kept)

    def test_what_the_app_does_not_have(self):
        live = Live(interface_app(), Rule())
        calls = [
            (lambda: live.send(), ("send",)), (lambda: live.add_row(1), ("add", 1)),
            (lambda: live.drop_row(1), ("drop", 1)), (lambda: live.swap_rows(0), ("swap", 0)),
            (lambda: live.set_row(1, "yes"), ("rowset", 1, "yes")), (lambda: live.press("h"), ("press", "h")),
            (lambda: live.edit("m", 2), ("edit", "m", 2)), (lambda: live.reopen((0, 0)), ("reopen", (0, 0))),
        ]
        kept = kept_of(live)
        for call, deed in calls:
            with self.assertRaises(BadDeed) as caught:
                call()
            self.assertEqual(caught.exception.deed, deed)
        self.assertEqual(kept_of(live), kept)

    def test_what_is_passed_stays_as_it_was(self):
        live = Live(full_app(), Rule())
        for value in ([["land", 0]], {"land": [0]}):
            kept = copied(value)
            with self.assertRaises(BadDeed):
                live.do(value)
            self.assertEqual(value, kept)


class SlotsTest(unittest.TestCase):
    def app(self):
        made = (("a", "m", (("map", ("no", "yes"), X),)),)
        late = (("d", "m", (X,)), ("e", "m", (("slot", "a"),)))
        inputs = (("x", "yes"), ("y", "no"))
        return App(YN, (("m", 1),), inputs, HOME, made=made, late=late, rows=("r", "no", "g", "m", (R,)))

    def test_inputs_and_made_slots(self):
        live = Live(self.app(), Rule())
        self.assertEqual([live[slot] for slot in ("x", "y", "a")], ["yes", "no", "no"])
        live.do(("set", "x", "no"))
        self.assertEqual([live[slot] for slot in ("x", "y", "a")], ["no", "no", "yes"])

    def test_late_slots(self):
        live = Live(self.app(), Rule())
        self.assertEqual([live["d"], live["e"]], [None, None])
        live.land(1)
        self.assertEqual([live["d"], live["e"]], [None, "no"])
        live.land(0)
        self.assertEqual([live["d"], live["e"]], ["yes", "no"])

    def test_the_slots_of_rows(self):
        for key in ("id", "place"):
            live = Live(self.app(), Rule(key=key))
            self.assertEqual([live["r"], live["g"]], [(), ()])
            live.add_row(3)
            live.add_row(1)
            live.set_row(1, "yes")
            live.land(4)
            self.assertEqual([live["r"], live["g"]], [("no", "yes"), (None, "yes")])

    def test_no_slot(self):
        for app in (self.app(), interface_app(), full_app()):
            live = Live(app, Rule())
            kept = kept_of(live)
            for value in [*STRANGE, "m", "home", "h", "land", ("x", "y"), ["x", "y"], {"x": []}, "X"]:
                with self.assertRaises(NoSlot) as caught:
                    live[value]
                self.assertEqual(repr(caught.exception.slot), repr(value))
                self.assertIs(value in live, False)
            self.assertEqual(kept_of(live), kept)

    def test_slots_of_rows_in_an_app_without_rows(self):
        live = Live(interface_app(), Rule())
        for slot in ("r", "g", "y", "a"):
            self.assertNotIn(slot, live)
            with self.assertRaises(NoSlot):
                live[slot]

    def test_in(self):
        live = Live(self.app(), Rule())
        for slot in ("x", "y", "a", "d", "e", "r", "g"):
            self.assertIs(slot in live, True)

    def test_setting(self):
        app, rule = self.app(), Rule()
        live = Live(app, rule)
        live["x"] = "no"
        expected = step(app, rule, begin(app, rule).standing, ("set", "x", "no"))
        self.assertEqual((live.last.standing, live.last.events), (expected.standing, expected.events))
        live["x"] = "no"
        self.assertEqual(live.done, (("set", "x", "no"),) * 2)
        self.assertEqual(live["x"], "no")

    def test_setting_what_is_no_input_or_no_word(self):
        live = Live(self.app(), Rule())
        kept = kept_of(live)
        wrong = [(slot, "yes") for slot in ("a", "d", "g", "r", "m", *STRANGE)]
        for at, word in [*wrong, *[("x", value) for value in STRANGE], ("x", "may"), (("x", "y"), "yes")]:
            with self.assertRaises(BadDeed) as caught:
                live[at] = word
            self.assertEqual(repr(caught.exception.deed), repr(("set", at, word)))
        self.assertEqual(kept_of(live), kept)

    def test_a_session_is_not_iterated_over(self):
        with self.assertRaises(TypeError):
            list(Live(self.app(), Rule()))


class ToldTest(unittest.TestCase):
    def test_faults(self):
        app, rule = interface_app(), Rule(words=False)
        live = Live(app, rule)
        seen = []
        for deed in [("set", "x", "no"), ("land", 1), ("land", 0), ("set", "x", "yes")]:
            last = live.do(deed)
            self.assertEqual(live.faults(), faults(app, rule, last))
            seen.append(live.faults())
        self.assertEqual(seen, [[], [], [("unsettled", "d")], []])
        self.assertEqual(live.seen_faults(), [("unsettled", "d")])

    def test_what_was_undone_is_not_seen(self):
        live = Live(interface_app(), Rule(words=False))
        for deed in [("set", "x", "no"), ("land", 1), ("land", 0)]:
            live.do(deed)
        live.undo()
        self.assertEqual(live.seen_faults(), [])
        live.redo()
        self.assertEqual(live.seen_faults(), [("unsettled", "d")])

    def test_lists_are_new(self):
        live = Live(interface_app(), Rule(words=False))
        live += [("set", "x", "no"), ("land", 1), ("land", 0)]
        for tell in (live.faults, live.seen_faults):
            told = tell()
            told.append("more")
            self.assertEqual(tell(), [("unsettled", "d")])

    def test_screen_and_len(self):
        app, rule = interface_app(), Rule()
        live = Live(app, rule)
        live.go("view")
        self.assertEqual(live.screen(), screen(app, rule, live.standing))
        self.assertEqual(live.screen(), ("view", None, ("yes",), (), (("d", (None,)),)))
        live.land(0)
        self.assertEqual(live.screen()[4], (("d", ("yes",)),))
        self.assertEqual(len(live), 2)

    def test_many_sessions(self):
        for source in sources(100):
            app, rule = random_app(source), random_rule(source)
            live = Live(app, rule)
            seen = faults(app, rule, live.last)
            for number in range(20):
                last = live.do(random_deed(source, app, live.standing))
                self.assertIs(live.last, last)
                self.assertEqual(live.faults(), faults(app, rule, last))
                self.assertEqual(live.screen(), screen(app, rule, last.standing))
                self.assertEqual(len(live), number + 1)
                seen += live.faults()
                words = dict(words_now(app, *live.standing[:2]))
                self.assertEqual({slot: live[slot] for slot in words}, words)
                values = tuple(record[0] for record in live.standing[5])
                self.assertEqual(tuple(live[slot] for slot in app.late_names), values[:len(app.late)])
                if app.rows is not None:
                    self.assertEqual(live[app.rows[0]], tuple(word for _, word in live.standing[2]))
                    self.assertEqual(live[app.rows[2]], values[len(app.late):])
            self.assertEqual(live.seen_faults(), [fault for fault in all_faults(app) if fault in seen])


if __name__ == "__main__":
    unittest.main()
