"""[23] and [24]: sessions as deeds, and landing at once."""

import unittest

from onesession.apps import App
from onesession.errors import BadFault, BadJournal
from onesession.journal import calm, outer, play, prompt, replay, shows
from onesession.judging import all_faults, faults, stale
from onesession.rules import Rule
from onesession.running import Step, begin, step
from onesession.standings import is_quiet
from tests.samples import STRANGE, X, YN, copied, full_app, interface_app, random_app, random_deed, random_rule, sources

HOME = (("home", (), None),)
DEEDS = (("set", "x", "no"), ("land", 1), ("go", "view"), ("land", 0))
OUTER = (("set", "x", "no"), ("go", "view"), ("edit", "m", 1))


def shown(last):
    """What a Step has."""
    return (last.standing, last.events)


def timer_app(when="later"):
    """An app with a handler that sets x later, and a late slot that reads x."""
    handlers = (("h", "m", "home", "x", (("map", ("no", "yes"), X),), (), when),)
    return App(YN, (("m", 1),), (("x", "yes"),), HOME, late=(("d", "m", (X,)),), handlers=handlers)


def random_deeds(source, app, rule, length, without=()):
    """A random session as a list of deeds."""
    deeds = []
    standing = begin(app, rule).standing
    while len(deeds) < length:
        deed = random_deed(source, app, standing)
        if deed[0] not in without:
            deeds.append(deed)
            standing = step(app, rule, standing, deed).standing
    return deeds


class JournalCase(unittest.TestCase):
    def assert_bad_journals(self, call, right, also=()):
        """A journal with a wrong item at any place is refused with its index, as a tuple and as a list."""
        wrong = [*STRANGE, ["land", 0], ("land", -1), ("land", True), ("set", "x"), ("set", "d", "yes"), *also]
        for value in wrong:
            for at in (0, 2, len(right)):
                for kind in (tuple, list):
                    deeds = kind(right[:at] + (value,) + right[at:])
                    kept = copied(deeds)
                    with self.assertRaises(BadJournal, msg=repr(value)) as caught:
                        call(deeds)
                    self.assertEqual(caught.exception.index, at)
                    self.assertEqual(deeds, kept)
        with self.assertRaises(BadJournal) as caught:
            call([right[0], None, right[1], ()])
        self.assertEqual(caught.exception.index, 1)


class PlayTest(JournalCase):
    def test_play(self):
        app, rule = interface_app(), Rule()
        for kind in (tuple, list):
            told = play(app, rule, kind(DEEDS))
            self.assertIs(type(told), tuple)
            self.assertTrue(all(isinstance(last, Step) for last in told))
            expected = [begin(app, rule)]
            for deed in DEEDS:
                expected.append(step(app, rule, expected[-1].standing, deed))
            self.assertEqual([shown(last) for last in told], [shown(last) for last in expected])

    def test_no_deeds(self):
        app, rule = interface_app(), Rule()
        for deeds in ((), []):
            told = play(app, rule, deeds)
            self.assertEqual([shown(last) for last in told], [shown(begin(app, rule))])

    def test_wrong_items(self):
        self.assert_bad_journals(lambda deeds: play(interface_app(), Rule(), deeds), DEEDS)
        self.assert_bad_journals(lambda deeds: play(full_app(), Rule(), deeds), DEEDS, [("go", "zzz"), ("add", 4)])

    def test_a_long_session(self):
        app, rule = timer_app(), Rule(one="one")
        deeds = [("press", "h"), ("timer", 0), ("land", 0)] * 700
        told = play(app, rule, deeds)
        self.assertEqual(len(told), 2101)
        self.assertEqual(told[-1].standing, told[6].standing)
        self.assertEqual(outer(app, deeds), (("press", "h"), ("timer", 0)) * 700)
        self.assertEqual(shown(replay(app, rule, deeds)[1]), shown(told[-1]))
        self.assertIs(shows(app, rule, tuple(deeds), ("unsettled", "d")), False)
        self.assertEqual(len(prompt(app, rule, outer(app, deeds))), 2101)


class ShowsTest(unittest.TestCase):
    def test_shows(self):
        app, rule = interface_app(), Rule(words=False)
        deeds = (("set", "x", "no"), ("land", 1), ("land", 0))
        self.assertIs(shows(app, rule, deeds, ("unsettled", "d")), True)
        self.assertIs(shows(app, rule, deeds, ("barred", "view")), False)
        self.assertIs(shows(app, Rule(), deeds, ("unsettled", "d")), False)
        # Only the last Step counts, and each deed behind it has the fault again.
        self.assertIs(shows(app, rule, deeds[:2], ("unsettled", "d")), False)
        self.assertIs(shows(app, rule, deeds + (("land", 7),), ("unsettled", "d")), True)
        self.assertIs(shows(app, rule, deeds + (("set", "x", "yes"),), ("unsettled", "d")), False)

    def test_the_beginning(self):
        app, rule = interface_app(), Rule()
        for fault in all_faults(app):
            self.assertIs(shows(app, rule, (), fault), False)

    def test_what_is_no_session(self):
        app, rule = interface_app(), Rule(words=False)
        deeds = (("set", "x", "no"), ("land", 1), ("land", 0))
        wrong = [list(deeds), deeds[:2] + (None,), (None,) + deeds, deeds[:1] + ((),) + deeds[1:], (deeds,), ([],), ({},),
                 deeds[:2] + (("land", False),), deeds[:2] + (("land",),), "land", ("land", 0)]
        for value in [*wrong, *[value for value in STRANGE if value != ()]]:
            kept = copied(value)
            self.assertIs(shows(app, rule, value, ("unsettled", "d")), False)
            self.assertEqual(repr(value), repr(kept))

    def test_a_wrong_fault_comes_first(self):
        app = interface_app()
        for fault in [*STRANGE, ("elder", "h"), ["unsettled", "d"], ("unsettled",), ("unsettled", "x")]:
            for deeds in ((), None, [None], DEEDS):
                with self.assertRaises(BadFault) as caught:
                    shows(app, Rule(), deeds, fault)
                self.assertEqual(repr(caught.exception.fault), repr(fault))

    def test_against_faults(self):
        seen = 0
        for source in sources(60):
            app, rule = random_app(source), random_rule(source, words=False, again="change")
            deeds = random_deeds(source, app, rule, 15)
            steps = play(app, rule, deeds)
            for number, last in enumerate(steps):
                told = [fault for fault in all_faults(app) if shows(app, rule, tuple(deeds[:number]), fault)]
                self.assertEqual(told, faults(app, rule, last))
                seen += len(told)
        self.assertGreater(seen, 20)


class OuterTest(JournalCase):
    def test_outer(self):
        app = interface_app()
        for kind in (tuple, list):
            self.assertEqual(outer(app, kind(DEEDS)), (("set", "x", "no"), ("go", "view")))
            self.assertEqual(outer(app, kind((("land", 3), ("land", 0)))), ())
            self.assertEqual(outer(app, kind(())), ())
            self.assertEqual(outer(app, kind((("timer", 0), ("reopen", (1,))))), (("timer", 0), ("reopen", (1,))))
        self.assertIs(type(outer(app, [])), tuple)

    def test_wrong_items(self):
        self.assert_bad_journals(lambda deeds: outer(interface_app(), deeds), DEEDS, [("send",)])


class ReplayTest(JournalCase):
    def test_it_stands(self):
        app, rule = interface_app(), Rule()
        for kind in (tuple, list):
            told = replay(app, rule, kind(DEEDS))
            self.assertIs(type(told), tuple)
            self.assertEqual((told[0], shown(told[1])), ("stands", shown(play(app, rule, DEEDS)[-1])))
            told = replay(app, rule, kind(()))
            self.assertEqual((told[0], shown(told[1])), ("stands", shown(begin(app, rule))))

    def test_it_breaks_at_a_landing(self):
        app, rule = interface_app(), Rule()
        for kind in (tuple, list):
            self.assertEqual(replay(app, rule, kind((("land", 0), ("land", 0)))), ("breaks", 1))
            self.assertEqual(replay(app, rule, kind((("land", 1),))), ("breaks", 0))
            self.assertEqual(replay(app, rule, kind((("set", "x", "no"), ("land", 2), ("land", 9)))), ("breaks", 1))

    def test_it_breaks_at_a_timer(self):
        app, rule = timer_app(), Rule()
        self.assertEqual(replay(app, rule, (("timer", 0),)), ("breaks", 0))
        self.assertEqual(replay(app, rule, (("press", "h"), ("timer", 1))), ("breaks", 1))
        self.assertEqual(replay(app, rule, (("press", "h"), ("timer", 0), ("timer", 0))), ("breaks", 2))
        self.assertEqual(replay(app, rule, (("press", "h"), ("timer", 0)))[0], "stands")

    def test_other_deeds_that_do_nothing_do_not_break_it(self):
        app, rule = full_app(), Rule()
        deeds = (("set", "x", "yes"), ("drop", 1), ("swap", 0), ("press", "k"), ("go", "home"), ("edit", "n", 0))
        told = replay(app, rule, deeds)
        self.assertEqual((told[0], shown(told[1])), ("stands", (begin(app, rule).standing, ())))

    def test_under_another_rule(self):
        app = interface_app()
        deeds = (("set", "x", "no"), ("land", 1), ("land", 0))
        self.assertEqual(replay(app, Rule(), deeds)[0], "stands")
        self.assertEqual(replay(app, Rule(one="one"), deeds), ("breaks", 1))
        self.assertEqual(replay(app, Rule(ask="needed"), deeds), ("breaks", 1))

    def test_wrong_items_come_first(self):
        self.assert_bad_journals(lambda deeds: replay(interface_app(), Rule(), deeds), DEEDS)
        with self.assertRaises(BadJournal) as caught:
            replay(interface_app(), Rule(), (("land", 8), None))
        self.assertEqual(caught.exception.index, 1)

    def test_against_play(self):
        for source in sources(100):
            app, rule = random_app(source), random_rule(source)
            deeds = random_deeds(source, app, rule, 12)
            deeds.insert(source.randrange(13), (source.choice(("land", "timer")), source.randrange(3)))
            steps = play(app, rule, deeds)
            places = [at for at, deed in enumerate(deeds)
                      if (deed[0] == "land" and deed[1] >= len(steps[at].standing[6]))
                      or (deed[0] == "timer" and deed[1] >= len(steps[at].standing[8]))]
            told = replay(app, rule, deeds)
            if places:
                self.assertEqual(told, ("breaks", places[0]))
            else:
                self.assertEqual((told[0], shown(told[1])), ("stands", shown(steps[-1])))


class PromptTest(JournalCase):
    def test_prompt(self):
        app, rule = interface_app(), Rule()
        expected = (("land", 0), ("set", "x", "no"), ("land", 0), ("go", "view"), ("edit", "m", 1), ("land", 0))
        for kind in (tuple, list):
            self.assertEqual(prompt(app, rule, kind(OUTER)), expected)
            self.assertEqual(prompt(app, rule, kind(())), (("land", 0),))
            self.assertEqual(prompt(app, Rule(ask="needed"), kind(())), ())
        self.assertIs(type(prompt(app, rule, [])), tuple)

    def test_several_acts(self):
        app, rule = full_app(), Rule()
        self.assertEqual(prompt(app, rule, ()), (("land", 0),) * 2)
        self.assertEqual(prompt(app, rule, (("add", 1),)), (("land", 0),) * 2 + (("add", 1), ("land", 0)))

    def test_timers_do_not_go_by_themselves(self):
        told = prompt(timer_app(), Rule(), (("press", "h"), ("timer", 0)))
        self.assertEqual(told, (("land", 0), ("press", "h"), ("timer", 0), ("land", 0)))

    def test_wrong_items(self):
        landings = [("land", 0), ("land", 5)]
        self.assert_bad_journals(lambda deeds: prompt(interface_app(), Rule(), deeds), OUTER, landings)
        with self.assertRaises(BadJournal) as caught:
            prompt(interface_app(), Rule(), (("set", "x", "no"), ("land", 0), None))
        self.assertEqual(caught.exception.index, 1)
        with self.assertRaises(BadJournal) as caught:
            prompt(interface_app(), Rule(), (None, ("land", 0)))
        self.assertEqual(caught.exception.index, 0)


class CalmTest(unittest.TestCase):
    def test_calm(self):
        app, rule = timer_app(), Rule(timers="held")
        standing = begin(app, rule).standing
        self.assertEqual(calm(app, rule, standing), (("land", 0),))
        standing = step(app, rule, standing, ("press", "h")).standing
        standing = step(app, rule, standing, ("press", "h")).standing
        expected = (("land", 0), ("timer", 0), ("land", 0), ("timer", 0), ("land", 0))
        self.assertEqual(calm(app, Rule(timers="now"), standing), expected)
        # With the held word the second timer changes nothing, so nothing is begun behind it.
        self.assertEqual(calm(app, rule, standing), expected[:4])

    def test_in_a_quiet_standing(self):
        app, rule = timer_app(), Rule()
        self.assertEqual(calm(app, rule, step(app, rule, begin(app, rule).standing, ("land", 0)).standing), ())

    def test_it_leads_to_a_quiet_standing(self):
        for source in sources(200):
            app, rule = random_app(source), random_rule(source)
            standing = begin(app, rule).standing
            for _ in range(15):
                standing = step(app, rule, standing, random_deed(source, app, standing)).standing
            kept = copied(standing)
            told = calm(app, rule, standing)
            self.assertIs(type(told), tuple)
            self.assertEqual(standing, kept)
            self.assertLessEqual(set(told), {("land", 0), ("timer", 0)})
            for deed in told:
                self.assertFalse(is_quiet(standing))
                # A timer goes only when all has landed.
                self.assertEqual(deed[0] == "land", standing[6] != ())
                standing = step(app, rule, standing, deed).standing
            self.assertTrue(is_quiet(standing))


class PromptFactsTest(unittest.TestCase):
    def sessions(self, count, start, without=(), **fixed):
        """Yield app, rule and the Steps with their deeds of sessions that prompt returns."""
        for source in sources(count, start=start):
            app, rule = random_app(source), random_rule(source, **fixed)
            deeds = random_deeds(source, app, rule, 15, without=("land",) + without)
            told = prompt(app, rule, deeds)
            self.assertEqual(outer(app, told), tuple(deeds))
            yield app, rule, list(zip((None,) + told, play(app, rule, told)))

    def test_each_landing_is_taken_and_begins_nothing(self):
        for _, _, steps in self.sessions(150, 0):
            for deed, last in steps:
                if deed is not None and deed[0] == "land":
                    self.assertEqual(deed, ("land", 0))
                    self.assertEqual(last.events[0][0], "taken")
                    self.assertNotIn("begun", [event[0] for event in last.events])
            for (_, last), (deed, _) in zip(steps, steps[1:] + [(None, None)]):
                # All has landed ahead of each other deed, and at the end.
                self.assertEqual(deed == ("land", 0), last.standing[6] != ())

    def test_nothing_is_stale_when_there_is_no_act(self):
        for fixed in ({"again": "match"}, {"keep": "keep"}):
            for saving in ({"saves": "nothing"}, None):
                without = () if saving else ("reopen",)
                for app, rule, steps in self.sessions(60, 400, without=without, **fixed, **(saving or {})):
                    for _, last in steps:
                        if last.standing[6] == ():
                            self.assertEqual(stale(app, rule, last.standing), ())

    def test_nothing_wrong_is_sent(self):
        for sending in ("bar", "wait"):
            for saving in ({"saves": "nothing"}, None):
                without = () if saving else ("reopen",)
                for app, rule, steps in self.sessions(60, 800, without=without, sending=sending, **(saving or {})):
                    for _, last in steps:
                        self.assertNotIn("sent", [kind for kind, _ in faults(app, rule, last)])


if __name__ == "__main__":
    unittest.main()
