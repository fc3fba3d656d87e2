"""[16], [17] and [18]: the faults of Steps."""

import unittest

from onesession.apps import App
from onesession.deeds import all_deeds
from onesession.errors import BadFault
from onesession.judging import KINDS, all_faults, check_due, check_fault, due, faults, stale
from onesession.rules import Rule
from onesession.running import Step, begin, step
from onesession.standings import call_now, instances, is_quiet, result_of, wanted
from tests.model import Model
from tests.samples import NOT_X, STRANGE, X, YN, after, copied, full_app, interface_app, random_app, random_deed
from tests.samples import random_rule, sources

R = ("slot", "r")
HOME = (("home", (), None),)
FULL_FAULTS = [
    ("unsettled", "d"), ("unsettled", "e"), ("unsettled", "g"), ("elder", "h"), ("elder", "k"),
    ("barred", "home"), ("barred", "view"), ("barred", "last"), ("sent", "a"), ("sent", "d"),
]


def row_app():
    """An app with rows, whose late word is the word of the row, and a late slot that reads x."""
    return App(YN, (("m", 1),), (("x", "yes"),), HOME, late=(("d", "m", (X,)),), rows=("r", "no", "g", "m", (R,)))


def handler_app(when, exprs=(NOT_X,)):
    """An app with a handler that sets x, and has nothing listed."""
    handlers = (("h", "m", "home", "x", exprs, (), when), ("k", "m", "home", "x", (X,), ("x",), "now"))
    return App(YN, (("m", 1),), (("x", "yes"),), HOME, handlers=handlers)


def form_app():
    """An app whose form has a made and a late check."""
    made = (("a", "m", (X,)),)
    return App(YN, (("m", 1),), (("x", "yes"),), HOME, made=made, late=(("d", "m", (X,)),), form=("d", "a"))


def guarded_app():
    """An app with a page that needs a late word, and lets if x is right."""
    pages = (("home", (), None), ("view", ("d",), ("m", (X,))))
    return App(YN, (("m", 1),), (("x", "yes"),), pages, late=(("d", "m", (X,)),))


class FaultsOfAppsTest(unittest.TestCase):
    def test_kinds(self):
        self.assertEqual(KINDS, ("unsettled", "elder", "barred", "sent"))

    def test_all_faults(self):
        self.assertEqual(all_faults(full_app()), FULL_FAULTS)
        self.assertEqual(all_faults(interface_app()), [("unsettled", "d"), ("barred", "home"), ("barred", "view")])

    def test_all_faults_of_apps_without_a_part(self):
        without = {
            "rows": (None, "unsettled", ["d", "e"]), "handlers": ((), "elder", []), "form": (None, "sent", []),
            "late": ((), "unsettled", ["g"]),
        }
        for part, (value, kind, names) in without.items():
            changes = {part: value}
            if part in ("rows", "late"):
                changes.update(pages=(("home", (), None), ("view", (), None)), form=("a",))
            found = all_faults(full_app(**changes))
            self.assertEqual([name for other, name in found if other == kind], names)
        self.assertEqual(all_faults(App(YN, (("m", 1),), (("x", "yes"),), HOME)), [("barred", "home")])

    def test_the_order_of_the_checks_is_that_of_the_form(self):
        self.assertEqual(all_faults(form_app())[-2:], [("sent", "d"), ("sent", "a")])

    def test_all_faults_are_a_new_list(self):
        app = full_app()
        first = all_faults(app)
        self.assertIs(type(first), list)
        first.clear()
        self.assertEqual(all_faults(app), FULL_FAULTS)

    def test_right_faults(self):
        app = full_app()
        for fault in FULL_FAULTS:
            self.assertIsNone(check_fault(app, fault))

    def test_wrong_faults(self):
        app = full_app()
        wrong = [
            ("unsettled", "h"), ("unsettled", "a"), ("unsettled", "home"), ("unsettled", "r"), ("elder", "d"),
            ("elder", "view"), ("barred", "h"), ("barred", "d"), ("sent", "e"), ("sent", "g"), ("sent", "b"),
            ("Elder", "h"), ("apart", "x"), ("", "d"), ("elder", "zzz"), ("elder", ""), ("elder", None), ("elder",),
            ("elder", "h", "h"), ("elder", ("h",)), ("elder", ["h"]), (None, "h"), (0, 0), (True, "h"), ["elder", "h"],
            [("elder", "h")], (("elder", "h"),), {"elder": "h"}, "elder", ("d", "unsettled"), *STRANGE,
        ]
        for value in wrong:
            kept = copied(value)
            with self.assertRaises(BadFault) as caught:
                check_fault(app, value)
            self.assertEqual(repr(caught.exception.fault), repr(kept))

    def test_faults_of_one_app_are_no_faults_of_another(self):
        with self.assertRaises(BadFault):
            check_fault(interface_app(), ("unsettled", "e"))


class DueTest(unittest.TestCase):
    def test_due_of_a_late_slot(self):
        app, rule = interface_app(), Rule()
        standing = begin(app, rule).standing
        self.assertEqual(due(app, rule, standing, ("d", 0)), "yes")
        self.assertEqual(due(app, rule, after(app, rule, ("set", "x", "no")).standing, ("d", 0)), "no")
        self.assertEqual(due(app, rule, after(app, rule, ("edit", "m", 1)).standing, ("d", 0)), "no")

    def test_due_of_rows(self):
        app = row_app()
        for key, names in (("id", (("g", 3), ("g", 1))), ("place", (("g", 1), ("g", 2)))):
            rule = Rule(key=key)
            standing = after(app, rule, ("add", 3), ("add", 1), ("rowset", 1, "yes")).standing
            self.assertEqual([due(app, rule, standing, name) for name in names], ["no", "yes"])

    def test_due_is_the_result_of_the_call_of_now(self):
        for source in sources(60):
            app, rule = random_app(source), random_rule(source)
            last = begin(app, rule)
            for _ in range(10):
                last = step(app, rule, last.standing, random_deed(source, app, last.standing))
                for name in instances(app, rule, last.standing):
                    call = call_now(app, rule, last.standing, name)
                    self.assertEqual(due(app, rule, last.standing, name), result_of(app, name[0], call))

    def test_stale_at_the_beginning(self):
        app, rule = row_app(), Rule()
        # No word is there, and None is never the due word.
        self.assertEqual(stale(app, rule, begin(app, rule).standing), (("d", 0),))
        self.assertEqual(stale(app, rule, after(app, rule, ("land", 0)).standing), ())

    def test_stale_of_rows(self):
        app, rule = row_app(), Rule()
        deeds = [("land", 0), ("add", 2), ("add", 1), ("land", 0), ("land", 0)]
        self.assertEqual(stale(app, rule, after(app, rule, *deeds[:3]).standing), (("g", 2), ("g", 1)))
        self.assertEqual(stale(app, rule, after(app, rule, *deeds).standing), ())
        later = after(app, rule, *deeds, ("rowset", 1, "yes"))
        self.assertEqual(stale(app, rule, later.standing), (("g", 1),))

    def test_only_wanted_instances_are_stale(self):
        app, rule = interface_app(), Rule(ask="needed")
        self.assertEqual(stale(app, rule, begin(app, rule).standing), ())
        self.assertEqual(stale(app, rule, after(app, rule, ("go", "view")).standing), (("d", 0),))

    def test_stale_on_the_way(self):
        app, rule = interface_app(), Rule(ask="needed", turn="loaded")
        last = after(app, rule, ("go", "view"))
        self.assertEqual(last.standing[3:5], ("home", "view"))
        self.assertEqual(stale(app, rule, last.standing), (("d", 0),))

    def test_an_old_word_is_stale_though_the_standing_is_not_quiet(self):
        app, rule = interface_app(), Rule()
        last = after(app, rule, ("land", 0), ("set", "x", "no"))
        self.assertEqual(stale(app, rule, last.standing), (("d", 0),))
        self.assertFalse(is_quiet(last.standing))
        self.assertEqual(faults(app, rule, last), [])

    def test_stale_is_a_tuple(self):
        app, rule = row_app(), Rule()
        self.assertIs(type(stale(app, rule, begin(app, rule).standing)), tuple)

    def test_check_due(self):
        app, rule = form_app(), Rule()
        for deeds, word in (((), "yes"), ((("set", "x", "no"),), "no")):
            standing = after(app, rule, *deeds).standing
            self.assertEqual([check_due(app, rule, standing, name) for name in ("d", "a")], [word, word])

    def test_check_due_follows_the_edition(self):
        app = full_app()
        rule = Rule()
        words = [check_due(app, rule, after(app, rule, ("edit", "n", number)).standing, "d") for number in (0, 1)]
        # The first edition reads x, which is "yes", the second one b, whose second edition is a: not x.
        self.assertEqual(words, ["yes", "no"])


class FaultsTest(unittest.TestCase):
    def test_unsettled(self):
        app, rule = interface_app(), Rule(words=False)
        done = [("set", "x", "no"), ("land", 1), ("land", 0)]
        self.assertEqual(faults(app, rule, after(app, rule, *done[:2])), [])
        self.assertEqual(faults(app, rule, after(app, rule, *done)), [("unsettled", "d")])
        self.assertEqual(faults(app, Rule(), after(app, Rule(), *done)), [])

    def test_unsettled_while_a_timer_is_there(self):
        late = (("d", "m", (X,)),)
        handlers = (("h", "m", "home", "x", (X,), (), "later"),)
        app = App(YN, (("m", 1),), (("x", "yes"),), HOME, late=late, handlers=handlers)
        rule = Rule(words=False)
        done = [("set", "x", "no"), ("land", 1), ("press", "h"), ("land", 0)]
        self.assertEqual(faults(app, rule, after(app, rule, *done)), [])
        self.assertEqual(faults(app, rule, after(app, rule, *done, ("timer", 0))), [("unsettled", "d")])

    def test_a_slot_that_is_not_wanted_is_not_unsettled(self):
        app, rule = interface_app(), Rule(words=False, ask="needed")
        done = [("go", "view"), ("set", "x", "no"), ("land", 1), ("land", 0)]
        self.assertEqual(faults(app, rule, after(app, rule, *done)), [("unsettled", "d")])
        self.assertEqual(faults(app, rule, after(app, rule, *done, ("go", "home"))), [])

    def test_each_fault_once_for_several_rows(self):
        app, rule = row_app(), Rule(words=False)
        done = [("land", 0)]
        for row in (1, 2):
            done += [("add", row), ("rowset", row, "yes"), ("land", 1), ("land", 0)]
        last = after(app, rule, *done)
        self.assertEqual(stale(app, rule, last.standing), (("g", 1), ("g", 2)))
        self.assertEqual(faults(app, rule, last), [("unsettled", "g")])

    def test_the_order_of_slots(self):
        late = (("d", "m", (X,)), ("c", "m", (X,)))
        app = App(YN, (("m", 1),), (("x", "yes"),), HOME, late=late)
        rule = Rule(words=False)
        last = after(app, rule, ("set", "x", "no"), ("land", 3), ("land", 2), ("land", 1), ("land", 0))
        self.assertEqual(faults(app, rule, last), [("unsettled", "d"), ("unsettled", "c")])

    def test_elder_when_pressed(self):
        app = handler_app("now")
        rule = Rule(holds="listed")
        self.assertEqual(faults(app, rule, after(app, rule, ("press", "h"))), [])
        last = after(app, rule, ("set", "x", "no"), ("press", "h"))
        self.assertEqual(last.events, (("pressed", "h", "no", "yes"),))
        self.assertEqual(faults(app, rule, last), [("elder", "h")])
        self.assertEqual(faults(app, Rule(), after(app, Rule(), ("set", "x", "no"), ("press", "h"))), [])

    def test_elder_when_a_timer_goes(self):
        app = handler_app("later")
        rule = Rule(timers="held")
        done = [("press", "h"), ("set", "x", "no"), ("timer", 0)]
        self.assertEqual(faults(app, rule, after(app, rule, *done[:2])), [])
        self.assertEqual(faults(app, rule, after(app, rule, *done)), [("elder", "h")])
        self.assertEqual(faults(app, rule, after(app, rule, done[0], done[2])), [])
        now = Rule(timers="now")
        self.assertEqual(faults(app, now, after(app, now, *done)), [])

    def test_an_old_call_with_the_same_outcome_is_no_fault(self):
        app, rule = handler_app("now", (("pair", (("yes", "yes"), ("yes", "yes")), X, X),)), Rule(holds="listed")
        last = after(app, rule, ("set", "x", "no"), ("press", "h"))
        self.assertEqual(last.events[0], ("pressed", "h", "yes", "yes"))
        self.assertEqual(faults(app, rule, last), [])

    def test_barred(self):
        app, rule = guarded_app(), Rule(turn="loaded", ask="needed")
        done = [("go", "view"), ("set", "x", "no"), ("land", 1)]
        last = after(app, rule, *done)
        self.assertEqual(last.events[:2], (("taken", "d", 0), ("page", "view")))
        self.assertEqual(faults(app, rule, last), [("barred", "view")])
        fine = after(app, rule, ("go", "view"), ("set", "x", "no"), ("set", "x", "yes"), ("land", 0))
        self.assertEqual([event[0] for event in fine.events][:2], ["taken", "page"])
        self.assertEqual(faults(app, rule, fine), [])

    def test_a_page_whose_guard_lets_no_longer_is_not_barred_by_that(self):
        app, rule = guarded_app(), Rule()
        last = after(app, rule, ("go", "view"), ("set", "x", "no"))
        self.assertEqual((last.standing[3], faults(app, rule, last)), ("view", []))

    def test_sent(self):
        app, rule = form_app(), Rule(sending="go")
        self.assertEqual(faults(app, rule, after(app, rule, ("send",))), [])
        last = after(app, rule, ("set", "x", "no"), ("send",))
        self.assertEqual(faults(app, rule, last), [("sent", "d"), ("sent", "a")])

    def test_a_form_that_is_held_back_is_not_sent(self):
        app, rule = form_app(), Rule()
        last = after(app, rule, ("land", 0), ("set", "x", "no"), ("send",))
        self.assertEqual(last.events, (("unsent",),))
        self.assertEqual(faults(app, rule, last), [])

    def test_sent_with_an_old_word_that_is_right(self):
        app = App(YN, (("m", 1),), (("x", "yes"),), HOME, late=(("d", "m", (X,)),), form=("d",))
        rule = Rule(words=False)
        last = after(app, rule, ("set", "x", "no"), ("land", 1), ("land", 0), ("send",))
        self.assertEqual(last.events, (("sent",),))
        self.assertEqual(faults(app, rule, last), [("unsettled", "d"), ("sent", "d")])

    def test_the_order_of_kinds(self):
        late = (("d", "m", (X,)),)
        handlers = (("h", "m", "home", "y", (X,), (), "now"),)
        app = App(YN, (("m", 1),), (("x", "yes"), ("y", "yes")), HOME, late=late, handlers=handlers)
        rule = Rule(words=False, holds="listed")
        last = after(app, rule, ("set", "x", "no"), ("land", 1), ("land", 0), ("press", "h"))
        self.assertEqual(faults(app, rule, last), [("unsettled", "d"), ("elder", "h")])

    def test_a_deed_that_does_nothing_has_the_fault_again(self):
        app, rule = interface_app(), Rule(words=False)
        last = after(app, rule, ("set", "x", "no"), ("land", 1), ("land", 0))
        again = step(app, rule, last.standing, ("land", 5))
        self.assertEqual(again.events, ())
        self.assertEqual(faults(app, rule, again), [("unsettled", "d")])

    def test_several_faults_of_one_handler_are_told_once(self):
        app, rule = handler_app("now"), Rule(holds="listed")
        standing = after(app, rule, ("set", "x", "no")).standing
        event = ("pressed", "h", "no", "yes")
        self.assertEqual(faults(app, rule, Step(standing, (event, event))), [("elder", "h")])

    def test_asked_twice(self):
        app, rule = form_app(), Rule(sending="go")
        last = after(app, rule, ("set", "x", "no"), ("send",))
        kept = copied((last.standing, last.events))
        first = faults(app, rule, last)
        first.append(("elder", "h"))
        self.assertEqual(faults(app, rule, last), [("sent", "d"), ("sent", "a")])
        self.assertEqual((last.standing, last.events), kept)


def sessions(count, start, length=25, **fixed):
    """Yield app, rule, standing, deed and Step of each deed of random sessions."""
    for source in sources(count, start=start):
        app, rule = random_app(source), random_rule(source, **fixed)
        last = begin(app, rule)
        for _ in range(length):
            standing = last.standing
            deed = random_deed(source, app, standing)
            last = step(app, rule, standing, deed)
            yield app, rule, standing, deed, last


class ModelTest(unittest.TestCase):
    def test_against_the_model(self):
        found = []
        for source in sources(500, start=100):
            app, rule = random_app(source), random_rule(source)
            found += self.assert_session(source, app, rule, 30, random_deed)
        self.assertEqual(set(KINDS) - {"barred"}, set(found) - {"barred"})

    def test_pages_that_are_under_way_against_the_model(self):
        found = []
        for source in sources(500, start=8000):
            app, rule = with_guards(random_app(source)), random_rule(source, turn="loaded", guard="begin")
            found += self.assert_session(source, app, rule, 8, hasty_deed)
        self.assertGreaterEqual(found.count("barred"), 10)

    def assert_session(self, source, app, rule, length, choose):
        """The faults of a session are those of the model; return their kinds."""
        model = Model(app, rule)
        last = begin(app, rule)
        self.assertEqual(faults(app, rule, last), [])
        kinds = []
        for _ in range(length):
            deed = choose(source, app, last.standing)
            last = step(app, rule, last.standing, deed)
            model.do(deed)
            self.assertEqual(list(stale(app, rule, last.standing)), model.stale())
            dues = model.due_checks()
            self.assertEqual({check: check_due(app, rule, last.standing, check) for check in dues}, dues)
            told = faults(app, rule, last)
            self.assertEqual(sorted(told), sorted(model.faults()))
            order = all_faults(app)
            self.assertEqual(told, sorted(set(told), key=order.index))
            kinds += [kind for kind, _ in told]
        return kinds


def with_guards(app):
    """An app like another one, in which each page needs all late slots and lets if x is right."""
    module, count = app.modules[0]
    pages = tuple((name, app.late_slots, (module, (X,) * count)) for name in app.page_names)
    return App(app.words, app.modules, app.inputs, pages, made=app.made, late=app.late, rows=app.rows,
               handlers=app.handlers, form=app.form)


def hasty_deed(source, app, standing):
    """A random deed of those that can bring a page too late."""
    is_away = standing[4] is not None and standing[0][0] == app.right
    heads = ("set",) if is_away else source.choice((("go", "set"), ("land",), ("land",)))
    deeds = [deed for deed in all_deeds(app, standing) if deed[0] in heads]
    return source.choice(deeds or [("land", 0)])


class FactsTest(unittest.TestCase):
    def test_the_first_step_has_none(self):
        for source in sources(300, start=900):
            app, rule = random_app(source), random_rule(source)
            self.assertEqual(faults(app, rule, begin(app, rule)), [])

    def test_no_page_is_barred_under_once_or_land(self):
        for fixed in ({"turn": "once"}, {"guard": "land"}):
            for app, rule, _, _, last in sessions(60, 2000, **fixed):
                self.assertNotIn("barred", [kind for kind, _ in faults(app, rule, last)])

    def test_no_handler_is_elder_that_takes_the_call_of_now(self):
        for fixed, when in (({"holds": "now"}, "now"), ({"timers": "now"}, "later")):
            for app, rule, _, _, last in sessions(60, 3000, **fixed):
                for kind, name in faults(app, rule, last):
                    self.assertFalse(kind == "elder" and app.handler_named(name)[6] == when)

    def test_no_made_check_is_wrong_under_bar_and_wait(self):
        for sending in ("bar", "wait"):
            for app, rule, _, _, last in sessions(60, 4000, sending=sending):
                for kind, name in faults(app, rule, last):
                    self.assertFalse(kind == "sent" and name in app.made_names)

    def test_a_deed_that_does_nothing(self):
        count = 0
        for app, rule, standing, _, last in sessions(150, 5000, again="change"):
            if last.standing == standing and last.events == ():
                told = faults(app, rule, last)
                self.assertTrue(all(kind == "unsettled" for kind, _ in told))
                self.assertEqual(told != [], is_quiet(standing) and stale(app, rule, standing) != ())
                count += told != []
        self.assertGreater(count, 5)

    def test_a_quiet_standing_without_reopening_is_not_stale(self):
        kinds = ({"again": "match"}, {"ask": "eager", "one": "one"}, {"ask": "eager", "words": True, "code": True},
                 {"ask": "eager", "newest": True})
        for number, fixed in enumerate(kinds):
            opened = None
            for app, rule, standing, deed, last in sessions(60, 6000 + 100 * number, **fixed):
                if standing == begin(app, rule).standing:
                    opened = False
                opened = opened or deed[0] == "reopen"
                if not opened and is_quiet(last.standing):
                    self.assertEqual(stale(app, rule, last.standing), ())

    def test_stale_instances_are_wanted(self):
        for app, rule, _, _, last in sessions(60, 7000):
            self.assertLessEqual(set(stale(app, rule, last.standing)), set(wanted(app, rule, last.standing)))


if __name__ == "__main__":
    unittest.main()
