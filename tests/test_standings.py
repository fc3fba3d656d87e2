"""[10] Standings."""

import unittest

from onesession.apps import App
from onesession.rules import Rule
from onesession.running import begin, step
from onesession.standings import call_at, call_now, instances, is_quiet, value_of, wanted
from tests.samples import NOT_X, X, Y, YN, after, full_app, interface_app, random_app, random_deed, random_rule, sources

ID = Rule(key="id")
PLACE = Rule(key="place")
R = ("slot", "r")


class InstancesTest(unittest.TestCase):
    def test_no_rows(self):
        app = full_app()
        for rule in (ID, PLACE):
            self.assertEqual(instances(app, rule, begin(app, rule).standing), (("d", 0), ("e", 0)))

    def test_an_app_without_rows_and_without_late_slots(self):
        app = interface_app()
        self.assertEqual(instances(app, ID, begin(app, ID).standing), (("d", 0),))
        app = App(YN, (("m", 1),), (("x", "no"),), (("home", (), None),))
        self.assertEqual(instances(app, ID, begin(app, ID).standing), ())

    def test_one_to_three_rows_in_any_order(self):
        app = full_app()
        orders = ((1,), (2,), (3,), (1, 2), (2, 1), (3, 1), (1, 2, 3), (3, 1, 2), (2, 3, 1), (3, 2, 1))
        for order in orders:
            deeds = [("add", row) for row in order]
            late = (("d", 0), ("e", 0))
            standing = after(app, ID, *deeds).standing
            self.assertEqual(instances(app, ID, standing), late + tuple(("g", row) for row in order))
            standing = after(app, PLACE, *deeds).standing
            self.assertEqual(instances(app, PLACE, standing), late + tuple(("g", at + 1) for at in range(len(order))))

    def test_rows_that_went_and_rows_that_were_exchanged(self):
        app = full_app()
        deeds = (("add", 3), ("add", 1), ("add", 2), ("drop", 1), ("swap", 0))
        self.assertEqual(instances(app, ID, after(app, ID, *deeds).standing)[2:], (("g", 2), ("g", 3)))
        self.assertEqual(instances(app, PLACE, after(app, PLACE, *deeds).standing)[2:], (("g", 1), ("g", 2)))

    def test_there_is_a_record_for_each_instance(self):
        for source in sources(60):
            app, rule = random_app(source), random_rule(source)
            standing = begin(app, rule).standing
            for _ in range(20):
                standing = step(app, rule, standing, random_deed(source, app, standing)).standing
                found = instances(app, rule, standing)
                self.assertEqual(len(found), len(standing[5]))
                self.assertEqual(len(set(found)), len(found))
                for at, instance in enumerate(found):
                    self.assertEqual(value_of(app, rule, standing, instance), standing[5][at][0])


def needs_app(**changes):
    """An app whose pages need this and that, and whose guards always let."""
    pages = (("home", ("d",), None), ("view", ("g",), None), ("last", ("e", "d"), None))
    late = (("d", "m", (X,)), ("e", "m", (Y,)), ("f", "m", (NOT_X,)))
    rows = ("r", "no", "g", "m", (R,))
    passed = {"late": late, "rows": rows, **changes}
    return App(YN, (("m", 1),), (("x", "yes"), ("y", "no")), pages, **passed)


class WantedTest(unittest.TestCase):
    def test_eager(self):
        app = needs_app()
        rule = Rule(ask="eager")
        for deeds in ((), (("go", "view"),), (("add", 2), ("add", 1)), (("go", "last"), ("add", 3))):
            standing = after(app, rule, *deeds).standing
            self.assertEqual(wanted(app, rule, standing), instances(app, rule, standing))

    def test_needed_for_the_page(self):
        app = needs_app()
        rule = Rule(ask="needed")
        self.assertEqual(wanted(app, rule, begin(app, rule).standing), (("d", 0),))
        standing = after(app, rule, ("add", 3), ("add", 1)).standing
        self.assertEqual(wanted(app, rule, standing), (("d", 0),))
        standing = after(app, rule, ("add", 3), ("add", 1), ("go", "view")).standing
        self.assertEqual(wanted(app, rule, standing), (("g", 3), ("g", 1)))
        standing = after(app, rule, ("add", 3), ("go", "last")).standing
        self.assertEqual(wanted(app, rule, standing), (("d", 0), ("e", 0)))

    def test_needed_for_the_way(self):
        app = needs_app()
        rule = Rule(ask="needed", turn="loaded")
        standing = after(app, rule, ("go", "last")).standing
        self.assertEqual((standing[3], standing[4]), ("home", "last"))
        self.assertEqual(wanted(app, rule, standing), (("d", 0), ("e", 0)))
        standing = after(app, rule, ("add", 2), ("go", "view")).standing
        self.assertEqual((standing[3], standing[4]), ("home", "view"))
        self.assertEqual(wanted(app, rule, standing), (("d", 0), ("g", 2)))

    def test_needed_for_a_check(self):
        app = needs_app(form=("f",))
        rule = Rule(ask="needed")
        self.assertEqual(wanted(app, rule, begin(app, rule).standing), (("d", 0), ("f", 0)))
        standing = after(app, rule, ("go", "view")).standing
        self.assertEqual(wanted(app, rule, standing), (("f", 0),))
        app = needs_app(made=(("a", "m", (X,)),), form=("a", "e"))
        self.assertEqual(wanted(app, rule, after(app, rule, ("go", "view")).standing), (("e", 0),))


class AskingTest(unittest.TestCase):
    def test_call_now(self):
        app = full_app()
        for rule in (ID, PLACE):
            deeds = (("add", 3), ("rowset", 3, "yes"), ("add", 1), ("set", "x", "no"))
            standing = after(app, rule, *deeds).standing
            self.assertEqual(call_now(app, rule, standing, ("d", 0)), (0, (("x", "no"),)))
            self.assertEqual(call_now(app, rule, standing, ("e", 0)), (0, (("x", "no"), ("y", "no"))))
            first = ("g", 3) if rule is ID else ("g", 1)
            second = ("g", 1) if rule is ID else ("g", 2)
            self.assertEqual(call_now(app, rule, standing, first), (0, (("r", "yes"),)))
            self.assertEqual(call_now(app, rule, standing, second), (0, (("r", "no"),)))
            standing = step(app, rule, standing, ("edit", "n", 1)).standing
            self.assertEqual(call_now(app, rule, standing, second), (1, (("x", "no"),)))

    def test_call_now_is_that_of_the_state_and_the_row(self):
        for source in sources(60):
            app, rule = random_app(source), random_rule(source)
            standing = begin(app, rule).standing
            for _ in range(15):
                standing = step(app, rule, standing, random_deed(source, app, standing)).standing
                words = [None] * len(app.late) + [word for _, word in standing[2]]
                for instance, word in zip(instances(app, rule, standing), words):
                    expected = call_at(app, instance[0], standing[0], standing[1], word)
                    self.assertEqual(call_now(app, rule, standing, instance), expected)

    def test_value_of(self):
        app = full_app()
        rule = Rule()
        standing = begin(app, rule).standing
        self.assertIsNone(value_of(app, rule, standing, ("d", 0)))
        standing = after(app, rule, ("land", 0)).standing
        self.assertEqual(value_of(app, rule, standing, ("d", 0)), "yes")
        self.assertIsNone(value_of(app, rule, standing, ("e", 0)))
        for key, number in (("id", 3), ("place", 1)):
            rule = Rule(key=key)
            standing = after(app, rule, ("add", 3), ("add", 1), ("land", 2)).standing
            self.assertEqual(value_of(app, rule, standing, ("g", number)), "no")

    def test_is_quiet(self):
        app = full_app()
        rule = Rule()
        first = begin(app, rule).standing
        self.assertIs(is_quiet(first), False)
        landed = after(app, rule, ("land", 0), ("land", 0)).standing
        self.assertIs(is_quiet(landed), True)
        there = after(app, rule, ("land", 0), ("land", 0), ("go", "view")).standing
        self.assertIs(is_quiet(there), True)
        with_timer = step(app, rule, there, ("press", "k")).standing
        self.assertIs(is_quiet(with_timer), False)
        fired = step(app, rule, with_timer, ("timer", 0)).standing
        self.assertEqual(len(fired[6]), 1)
        self.assertIs(is_quiet(fired), False)
        self.assertIs(is_quiet(step(app, rule, fired, ("land", 0)).standing), True)


if __name__ == "__main__":
    unittest.main()
