"""[19]: screens."""

import unittest

from onesession.apps import App
from onesession.judging import faults
from onesession.rules import Rule
from onesession.running import begin, step
from onesession.screens import due_screen, screen
from onesession.standings import is_quiet
from tests.model import Model
from tests.samples import X, Y, YN, after, copied, full_app, interface_app, random_app, random_deed, random_rule, sources

R = ("slot", "r")


def row_app(needs):
    """An app with a page that needs these slots of two late ones and that of rows."""
    late = (("d", "m", (X,)), ("e", "m", (Y,)))
    pages = (("home", needs, None), ("view", (), None))
    inputs = (("x", "yes"), ("y", "no"))
    return App(YN, (("m", 1),), inputs, pages, late=late, rows=("r", "no", "g", "m", (R,)))


class ScreenTest(unittest.TestCase):
    def test_a_page_with_no_needs(self):
        app, rule = interface_app(), Rule()
        standing = begin(app, rule).standing
        self.assertEqual(screen(app, rule, standing), ("home", None, ("yes",), (), ()))
        self.assertEqual(due_screen(app, rule, standing), ("home", None, ("yes",), (), ()))

    def test_a_late_slot(self):
        app, rule = interface_app(), Rule()
        standing = after(app, rule, ("go", "view"), ("set", "x", "no")).standing
        self.assertEqual(screen(app, rule, standing), ("view", None, ("no",), (), (("d", (None,)),)))
        self.assertEqual(due_screen(app, rule, standing), ("view", None, ("no",), (), (("d", ("no",)),)))
        standing = step(app, rule, standing, ("land", 1)).standing
        self.assertEqual(screen(app, rule, standing), due_screen(app, rule, standing))

    def test_the_way(self):
        app, rule = interface_app(), Rule(turn="loaded")
        standing = after(app, rule, ("go", "view")).standing
        # The needs are those of the page that is shown, not of the one that is under way.
        self.assertEqual(screen(app, rule, standing), ("home", "view", ("yes",), (), ()))
        self.assertEqual(due_screen(app, rule, standing), ("home", "view", ("yes",), (), ()))

    def test_no_rows(self):
        app, rule = row_app(("g",)), Rule()
        standing = begin(app, rule).standing
        self.assertEqual(screen(app, rule, standing)[4], (("g", ()),))
        self.assertEqual(due_screen(app, rule, standing)[4], (("g", ()),))

    def test_rows_in_the_order_of_the_places(self):
        app = row_app(("g",))
        for key in ("id", "place"):
            rule = Rule(key=key)
            last = after(app, rule, ("add", 3), ("add", 1), ("rowset", 1, "yes"), ("land", 2))
            standing = last.standing
            self.assertEqual(screen(app, rule, standing)[3:], (((3, "no"), (1, "yes")), (("g", ("no", None)),)))
            self.assertEqual(due_screen(app, rule, standing)[3:], (((3, "no"), (1, "yes")), (("g", ("no", "yes")),)))

    def test_the_order_of_the_needs(self):
        for needs in (("e", "g", "d"), ("g", "d", "e")):
            app, rule = row_app(needs), Rule()
            standing = after(app, rule, ("add", 2), ("land", 0), ("land", 0), ("land", 0)).standing
            words = {"d": ("yes",), "e": ("no",), "g": ("no",)}
            self.assertEqual(screen(app, rule, standing)[4], tuple((slot, words[slot]) for slot in needs))
            self.assertEqual(due_screen(app, rule, standing)[4], tuple((slot, words[slot]) for slot in needs))

    def test_what_is_not_to_be_seen(self):
        app, rule = full_app(), Rule(sending="wait", holds="listed")
        first = begin(app, rule).standing
        later = step(app, rule, first, ("send",)).standing
        self.assertNotEqual(first, later)
        self.assertEqual(screen(app, rule, first), screen(app, rule, later))
        self.assertEqual(due_screen(app, rule, first), due_screen(app, rule, later))

    def test_the_standing_stays_as_it_was(self):
        app, rule = row_app(("g", "d")), Rule()
        standing = after(app, rule, ("add", 2)).standing
        kept = copied(standing)
        self.assertEqual(screen(app, rule, standing), screen(app, rule, standing))
        due_screen(app, rule, standing)
        self.assertEqual(standing, kept)


class ScreensOfSessionsTest(unittest.TestCase):
    def test_against_the_model(self):
        for source in sources(200):
            app, rule = random_app(source), random_rule(source)
            model = Model(app, rule)
            last = begin(app, rule)
            for _ in range(20):
                deed = random_deed(source, app, last.standing)
                last = step(app, rule, last.standing, deed)
                model.do(deed)
                self.assertEqual(screen(app, rule, last.standing), model.screen(False))
                self.assertEqual(due_screen(app, rule, last.standing), model.screen(True))

    def test_both_are_equal_when_it_is_quiet_and_settled(self):
        count = 0
        for source in sources(150, start=500):
            app, rule = random_app(source), random_rule(source)
            last = begin(app, rule)
            for _ in range(25):
                last = step(app, rule, last.standing, random_deed(source, app, last.standing))
                kinds = [kind for kind, _ in faults(app, rule, last)]
                if is_quiet(last.standing) and "unsettled" not in kinds:
                    self.assertEqual(screen(app, rule, last.standing), due_screen(app, rule, last.standing))
                    count += 1
        self.assertGreater(count, 200)


if __name__ == "__main__":
    unittest.main()
