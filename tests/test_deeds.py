"""[13] Which values are deeds, and the list of all deeds."""

import unittest

from onesession.apps import App
from onesession.deeds import all_deeds, is_deed
from onesession.errors import BadDeed, SessionError
from onesession.rules import Rule
from onesession.running import begin, step
from tests.samples import STRANGE, X, YN, YNM, after, copied, full_app, interface_app, random_app, random_deed
from tests.samples import random_rule, sources, with_flag, with_list

HEADS = ("land", "set", "edit", "rowset", "add", "drop", "swap", "go", "press", "timer", "send", "reopen")


def least_app():
    """An app without late slots, rows, handlers and a form."""
    return App(YN, (("m", 1),), (("x", "no"),), (("home", (), None),))


# The deeds of full_app, without those of acts and timers.
FULL = (
    ("set", "x", "yes"), ("set", "x", "no"), ("set", "y", "yes"), ("set", "y", "no"),
    ("edit", "m", 0), ("edit", "n", 0), ("edit", "n", 1),
    ("rowset", 1, "yes"), ("rowset", 1, "no"), ("rowset", 2, "yes"), ("rowset", 2, "no"), ("rowset", 3, "yes"),
    ("rowset", 3, "no"), ("add", 1), ("drop", 1), ("add", 2), ("drop", 2), ("add", 3), ("drop", 3), ("swap", 0),
    ("swap", 1), ("go", "home"), ("go", "view"), ("go", "last"), ("press", "h"), ("press", "k"),
    ("send",), ("reopen", (0, 0)), ("reopen", (0, 1)),
)


class AllDeedsTest(unittest.TestCase):
    def test_an_app_with_everything(self):
        app = full_app()
        rule = Rule()
        lands = [("land", 0), ("land", 1)]
        self.assertEqual(all_deeds(app, begin(app, rule).standing), lands + list(FULL))

    def test_acts_and_timers(self):
        app = full_app()
        rule = Rule()
        deeds = (("go", "view"), ("press", "k"), ("press", "k"), ("add", 2))
        expected = [("land", 0), ("land", 1), ("land", 2)] + list(FULL[:-3])
        expected += [("timer", 0), ("timer", 1)] + list(FULL[-3:])
        self.assertEqual(all_deeds(app, after(app, rule, *deeds).standing), expected)
        quiet = after(app, rule, ("land", 0), ("land", 0)).standing
        self.assertEqual(all_deeds(app, quiet), list(FULL))

    def test_an_app_with_the_least(self):
        app = least_app()
        expected = [("set", "x", "yes"), ("set", "x", "no"), ("edit", "m", 0), ("go", "home"), ("reopen", (0,))]
        self.assertEqual(all_deeds(app, begin(app, Rule()).standing), expected)

    def test_the_app_of_the_interface(self):
        app = interface_app()
        expected = [("land", 0), ("set", "x", "yes"), ("set", "x", "no"), ("edit", "m", 0), ("edit", "m", 1),
                    ("go", "home"), ("go", "view"), ("reopen", (0,)), ("reopen", (1,))]
        self.assertEqual(all_deeds(app, begin(app, Rule()).standing), expected)

    def test_three_words_and_all_editions(self):
        app = App(YNM, (("n", 2), ("m", 2)), (("x", "no"),), (("home", (), None),), rows=("r", "no", "g", "m", (X, X)))
        found = all_deeds(app, begin(app, Rule()).standing)
        self.assertEqual(found[:3], [("set", "x", "yes"), ("set", "x", "no"), ("set", "x", "may")])
        self.assertEqual(found[3:7], [("edit", "n", 0), ("edit", "n", 1), ("edit", "m", 0), ("edit", "m", 1)])
        self.assertEqual(found[7:16], [("rowset", row, word) for row in (1, 2, 3) for word in YNM])
        self.assertEqual(found[-4:], [("reopen", (0, 0)), ("reopen", (0, 1)), ("reopen", (1, 0)), ("reopen", (1, 1))])

    def test_a_new_list_each_time(self):
        app = full_app()
        standing = begin(app, Rule()).standing
        first = all_deeds(app, standing)
        expected = list(first)
        first.clear()
        self.assertEqual(all_deeds(app, standing), expected)


class IsDeedTest(unittest.TestCase):
    def assert_no_deed(self, app, value):
        before = copied(value)
        standing = begin(app, Rule()).standing
        kept = copied(standing)
        self.assertIs(is_deed(app, value), False, value)
        with self.assertRaises(BadDeed) as caught:
            step(app, Rule(), standing, value)
        self.assertIs(caught.exception.deed, value)
        self.assertEqual(value, before)
        self.assertEqual(standing, kept)

    def test_all_deeds_are_deeds(self):
        for source in sources(40):
            app, rule = random_app(source), random_rule(source)
            standing = begin(app, rule).standing
            for _ in range(10):
                for deed in all_deeds(app, standing):
                    self.assertIs(is_deed(app, deed), True)
                standing = step(app, rule, standing, random_deed(source, app, standing)).standing

    def test_numbers_of_acts_and_timers_are_not_bounded(self):
        for app in (full_app(), least_app()):
            for head in ("land", "timer"):
                for number in (0, 1, 2, 100, 10 ** 3999):
                    self.assertIs(is_deed(app, (head, number)), True)

    def test_the_deeds_of_an_app_are_no_others(self):
        app = full_app()
        values = ("x", "y", "a", "d", "r", "g", "m", "n", "home", "view", "last", "h", "k", "yes", "no", "may", 0, 1, 2, 3, 4,
                  -1, (0, 0), (0, 1), (1, 0), (0,), True, False, None)
        found = [(head,) for head in HEADS if is_deed(app, (head,))]
        found += [(head, one) for head in HEADS for one in values if is_deed(app, (head, one))]
        found += [(head, one, two) for head in HEADS for one in values for two in values if is_deed(app, (head, one, two))]
        numbered = [(head, number) for head in ("land", "timer") for number in range(5)]
        self.assertEqual(sorted(found, key=repr), sorted(list(FULL) + numbered, key=repr))

    def test_any_other_value(self):
        app = full_app()
        # Told by repr, since a flag is equal to an integer.
        right = {repr(deed) for deed in FULL}
        right |= {repr((head, number)) for head in ("land", "timer") for number in (0, 1, 10 ** 30)}
        large = ("x" * 4000, -10 ** 3999, ("land", -10 ** 3999), ("go", "x" * 4000), ("land",) * 1000)
        for value in STRANGE + large:
            tried = [value, (value,), (value, "x"), (value, 0), (value, "x", "no")]
            for head in HEADS:
                tried += [(head, value), (head, value, value), (head, value, value, value), (head, value, "no")]
                tried += [(head, "x", value), (head, 1, value), (head, "m", value)]
            tried += [("reopen", (value, 0)), ("reopen", (0, value)), ("reopen", (value,)), ("reopen", (0, 0, value))]
            for bad in tried:
                if repr(bad) not in right:
                    self.assert_no_deed(app, bad)

    def test_names_of_other_parts(self):
        app = full_app()
        for bad in (
                ("set", "a", "no"), ("set", "d", "no"), ("set", "r", "no"), ("set", "g", "no"), ("set", "m", "no"),
                ("set", "home", "no"), ("set", "x", "may"), ("set", "x", "x"), ("set", "no", "x"), ("edit", "x", 0),
                ("edit", "home", 0), ("edit", "m", 1), ("edit", "n", 2), ("edit", "n", -1), ("edit", 0, 0),
                ("rowset", "r", "no"), ("rowset", 1, "may"), ("rowset", 0, "no"), ("rowset", 4, "no"), ("rowset", -1, "no"),
                ("add", 0), ("add", 4), ("add", -1), ("drop", 0), ("drop", 4), ("add", "r"), ("swap", 2), ("swap", -1),
                ("go", "x"), ("go", "h"), ("go", "m"), ("go", None), ("press", "home"), ("press", "x"), ("press", "d"),
                ("reopen", (0, 2)), ("reopen", (1, 0)), ("reopen", (0, -1)), ("reopen", (0,)), ("reopen", (0, 0, 0)),
                ("reopen", ()), ("reopen", 0), ("reopen", 0, 0), ("reopen",), ("send", "a"), ("send", ()), ("send", None),
                ("land", -1), ("timer", -1), ("land", "d"), ("land", "d", 0), ("land",), ("timer", "k"), ("timer",),
                ("Send",), ("sends",), ("",), ("go",), ("press",), ("add",), ("swap",), ("set", "x"), ("edit", "m")):
            self.assert_no_deed(app, bad)

    def test_an_item_more_or_less(self):
        app = full_app()
        for deed in FULL + (("land", 0), ("timer", 3)):
            self.assertIs(is_deed(app, deed), True)
            for more in (0, 1, "x", "no", None, (), (0, 0)):
                self.assert_no_deed(app, deed + (more,))
            if deed != ("send",):
                self.assert_no_deed(app, deed[:-1])
            self.assert_no_deed(app, deed[1:])
            self.assert_no_deed(app, (deed,))

    def test_a_flag_in_the_place_of_a_number(self):
        app = full_app()
        found = [bad for deed in FULL + (("land", 0), ("timer", 1)) for bad in with_flag(deed)]
        self.assertEqual(len(found), 15)
        for bad in found:
            self.assert_no_deed(app, bad)

    def test_a_list_in_the_place_of_a_tuple(self):
        app = full_app()
        for deed in FULL + (("land", 0), ("timer", 1)):
            for bad in with_list(deed):
                self.assert_no_deed(app, bad)

    def test_dicts(self):
        app = full_app()
        for bad in ({}, {"land": 0}, {"head": "send"}, ({},), ("go", {}), ("set", {}, {}), ({"send": 1},), ("reopen", {}),
                    ("reopen", ({}, {})), ("reopen", {0: 0, 1: 0}), ("add", {1: 1})):
            self.assert_no_deed(app, bad)

    def test_without_rows_a_form_and_handlers(self):
        app = least_app()
        for deed in FULL:
            if deed[0] in ("rowset", "add", "drop", "swap", "press", "send"):
                self.assert_no_deed(app, deed)
        form = full_app(rows=None, pages=(("home", (), None), ("view", (), None)))
        self.assertIs(is_deed(form, ("send",)), True)
        self.assertIs(is_deed(form, ("add", 1)), False)
        rows = full_app(form=None)
        self.assertIs(is_deed(rows, ("send",)), False)
        self.assertIs(is_deed(rows, ("add", 1)), True)

    def test_the_error_is_one_of_the_program(self):
        app = least_app()
        self.assertRaises(SessionError, step, app, Rule(), begin(app, Rule()).standing, None)


if __name__ == "__main__":
    unittest.main()
