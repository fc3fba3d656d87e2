"""[6] Errors of apps."""

import itertools
import unittest

from onesession.apps import App
from onesession.errors import InvalidApp, SessionError
from tests.samples import BOTH, NOT_X, STRANGE, X, Y, YN, copied, full_app, full_arguments, with_flag, with_list

ORDER = ("words", "modules", "inputs", "made", "late", "rows", "pages", "handlers", "form")
ROW = ("slot", "r")
A = ("slot", "a")
B = ("slot", "b")
D = ("slot", "d")
BAD = ("word", "may")

HOME = ("home", (), None)
VIEW = ("view", ("d", "g"), ("m", (X,)))
LAST = ("last", ("e",), ("n", (X, Y)))
MADE_A = ("a", "m", (NOT_X,))
MADE_B = ("b", "n", (Y, A))
LATE_D = ("d", "n", (X, B))
LATE_E = ("e", "m", (BOTH,))
HANDLER = ("h", "m", "home", "x", (NOT_X,), ("x", "a"), "now")
LATER = ("k", "n", "view", "y", (X, Y), (), "later")

# Names that are none: a capital letter, none or nine letters, other characters, other kinds of values.
NO_NAMES = ("X", "xX", "", "abcdefghi", "a b", "a1", "x\n", "-", "a_b", 0, 1, None, True, ("x",), ["x"], {"x": "x"})
NO_TUPLES = (None, True, False, 0, 1, "", "ab", [], {}, [("m", 1)], {"m": 1}, 10 ** 50)

# Nodes that are wrong at the top or within, with their paths.
WRONG_NODES = (
    (None, ()), ("x", ()), (["slot", "x"], ()), (("slot", "q"), ()), (BAD, ()), (("map", ("no",), X), ()),
    (("map", ("no", "yes"), ("slot", "q")), (0,)), (("pair", (("yes", "no"), ("no", "no")), X, BAD), (1,)),
    (("pair", (("yes", "no"), ("no", "no")), ("map", ("no", "yes"), []), BAD), (0, 0)),
)


def changed(item, at, value):
    """A tuple with another item at a position."""
    return item[:at] + (value,) + item[at + 1:]


class AppErrorsTest(unittest.TestCase):
    def assert_wrong(self, part, path, value):
        before = copied(value)
        arguments = {**full_arguments(), part: value}
        with self.assertRaises(InvalidApp, msg=repr(value)) as caught:
            App(**arguments)
        self.assertEqual((caught.exception.part, caught.exception.path), (part, path), value)
        self.assertIs(type(caught.exception.path), tuple)
        self.assertEqual(value, before)

    def assert_right(self, part, value):
        self.assertEqual(getattr(full_app(**{part: value}), part), value)

    def test_the_example_of_the_interface(self):
        with self.assertRaises(InvalidApp) as caught:
            App(("yes", "no"), (("m", 1),), (("x", "no"),), (("home", (), None),), made=(("b", "m", (("slot", "c"),)),))
        self.assertEqual((caught.exception.part, caught.exception.path), ("made", (0, 0)))
        self.assertIsInstance(caught.exception, SessionError)

    def test_what_is_no_tuple(self):
        right = full_arguments()
        for part in ORDER:
            for value in NO_TUPLES + (list(right[part]),):
                if value is not None or part not in ("rows", "form"):
                    self.assert_wrong(part, (), value)
        self.assert_right("form", None)

    def test_rows_and_form_may_be_none(self):
        pages = (HOME, ("view", ("d",), None), LAST)
        app = full_app(rows=None, form=None, pages=pages)
        self.assertEqual((app.rows, app.form), (None, None))

    def test_too_few_and_too_many_items(self):
        self.assert_wrong("words", (), ())
        self.assert_wrong("words", (), ("yes",))
        self.assert_wrong("words", (), ("yes", "no", "may", "nay"))
        self.assert_wrong("words", (), ("yes", "yes", None, "nay"))
        self.assert_wrong("modules", (), ())
        self.assert_wrong("modules", (), (("m", 1), ("n", 2), ("o", 1)))
        self.assert_wrong("inputs", (), ())
        self.assert_wrong("inputs", (), (("x", "yes"), ("y", "no"), ("z", "no"), ("w", "no")))
        self.assert_wrong("made", (), (MADE_A, MADE_B, ("aa", "m", (X,)), ("bb", "m", (X,))))
        self.assert_wrong("late", (), (LATE_D, LATE_E, ("f", "m", (X,)), ("ff", "m", (X,))))
        self.assert_wrong("pages", (), ())
        self.assert_wrong("pages", (), (HOME, VIEW, LAST, ("more", (), None)))
        self.assert_wrong("handlers", (), (HANDLER, LATER, ("l", "m", "home", "x", (X,), (), "now")))
        self.assert_wrong("form", (), ())
        self.assert_wrong("form", (), ("a", "b", "d"))
        self.assert_wrong("rows", (), ())
        self.assert_wrong("rows", (), ("r", "no", "g", "n"))
        self.assert_wrong("rows", (), ("r", "no", "g", "n", (ROW, X), "n"))

    def test_wrong_items_of_words(self):
        for bad in NO_NAMES:
            self.assert_wrong("words", (0,), (bad, "no"))
            self.assert_wrong("words", (1,), ("yes", bad))
            self.assert_wrong("words", (2,), ("yes", "no", bad))
            self.assert_wrong("words", (0,), (bad, bad))
        self.assert_wrong("words", (1,), ("yes", "yes"))
        self.assert_wrong("words", (2,), ("yes", "no", "yes"))
        self.assert_wrong("words", (2,), ("yes", "no", "no"))

    def test_wrong_items_of_modules(self):
        bad_items = [(bad, 1) for bad in NO_NAMES]
        bad_items += [("o", bad) for bad in (0, 3, -1, 10 ** 30, True, False, None, "1", (1,), [1], {})]
        bad_items += [(), ("o",), ("o", 1, 1), ["o", 1], "o", None, 1, {"o": 1}, True]
        for bad in bad_items:
            self.assert_wrong("modules", (0,), (bad,))
            self.assert_wrong("modules", (0,), (bad, bad))
            self.assert_wrong("modules", (1,), (("m", 1), bad))
        self.assert_wrong("modules", (1,), (("m", 1), ("m", 2)))
        self.assert_wrong("modules", (1,), (("m", 1), ("m", 1)))

    def test_wrong_items_of_inputs(self):
        bad_items = [(bad, "no") for bad in NO_NAMES]
        bad_items += [("z", bad) for bad in ("may", "", "x", None, 0, True, ("yes",), ["yes"], {})]
        bad_items += [(), ("z",), ("z", "no", "no"), ["z", "no"], "z", None, 1, {"z": "no"}]
        for bad in bad_items:
            self.assert_wrong("inputs", (0,), (bad, ("y", "no")))
            self.assert_wrong("inputs", (1,), (("x", "no"), bad))
            self.assert_wrong("inputs", (2,), (("x", "no"), ("y", "no"), bad))
            self.assert_wrong("inputs", (1,), (("x", "no"), bad, bad))
        self.assert_wrong("inputs", (1,), (("x", "no"), ("x", "yes")))
        self.assert_wrong("inputs", (2,), (("x", "no"), ("y", "yes"), ("x", "yes")))

    def wrong_makers(self, taken):
        """Items of made or late, or the end of rows, that break a condition whatever their expressions are."""
        found = [(bad, "m", (X,)) for bad in NO_NAMES + taken]
        found += [("q", bad, (X,)) for bad in ("o", "x", "", "home", None, 0, True, ("m",), ["m"], {})]
        found += [("q", "m", bad) for bad in ((), (X, X), X[0], [X], None, 1, {}, {0: X})]
        found += [("q", "n", bad) for bad in ((), (X,), (X, X, X), [X, X])]
        found += [(), ("q",), ("q", "m"), ("q", "m", (X,), (X,)), ["q", "m", (X,)], "q", None, 3, {"q": "m"}]
        return found

    def test_wrong_items_of_made(self):
        for bad in self.wrong_makers(("x", "y")):
            self.assert_wrong("made", (0,), (bad,))
            self.assert_wrong("made", (1,), (MADE_A, bad))
            self.assert_wrong("made", (2,), (MADE_A, MADE_B, bad))
            self.assert_wrong("made", (1,), (MADE_A, bad, bad))
        self.assert_wrong("made", (1,), (MADE_A, ("a", "m", (X,))))
        self.assert_wrong("made", (2,), (MADE_A, MADE_B, ("a", "m", (X,))))

    def test_wrong_items_of_late(self):
        for bad in self.wrong_makers(("x", "y", "a", "b")):
            self.assert_wrong("late", (0,), (bad,))
            self.assert_wrong("late", (1,), (LATE_D, bad))
            self.assert_wrong("late", (2,), (LATE_D, LATE_E, bad))
        self.assert_wrong("late", (1,), (LATE_D, ("d", "m", (X,))))
        self.assert_wrong("late", (2,), (LATE_D, LATE_E, ("e", "m", (X,))))

    def test_wrong_expressions_of_made_and_late(self):
        for bad, path in WRONG_NODES:
            self.assert_wrong("made", (0, 0) + path, (("a", "m", (bad,)),))
            self.assert_wrong("made", (1, 0) + path, (MADE_A, ("b", "n", (bad, X))))
            self.assert_wrong("made", (1, 1) + path, (MADE_A, ("b", "n", (X, bad))))
            self.assert_wrong("made", (1, 0) + path, (MADE_A, ("b", "n", (bad, None)), None))
            self.assert_wrong("late", (0, 1) + path, (("d", "n", (X, bad)), LATE_E))
            self.assert_wrong("late", (1, 0) + path, (LATE_D, ("e", "m", (bad,))))

    def test_a_slot_that_may_not_be_read(self):
        for slot in (A, B, D, ROW, ("slot", "g"), ("slot", "e")):
            self.assert_wrong("made", (0, 0), (("a", "m", (slot,)),))
            self.assert_wrong("made", (0, 0, 0), (("a", "m", (("map", ("no", "yes"), slot),)),))
            if slot != A:
                self.assert_wrong("made", (1, 1), (MADE_A, ("b", "n", (A, slot))))
            if slot not in (A, B):
                self.assert_wrong("late", (0, 1), (("d", "n", (X, slot)), LATE_E))
                self.assert_wrong("late", (1, 0), (LATE_D, ("e", "m", (slot,))))
                self.assert_wrong("pages", (1, 0), (HOME, ("view", (), ("m", (slot,)))))
                self.assert_wrong("handlers", (0, 0), (changed(HANDLER, 4, (slot,)),))
                self.assert_wrong("handlers", (1, 1), (HANDLER, changed(LATER, 4, (X, slot))))
            if slot not in (A, B, ROW):
                self.assert_wrong("rows", (1,), ("r", "no", "g", "n", (ROW, slot)))

    def test_the_item_is_asked_ahead_of_its_expressions(self):
        self.assert_wrong("made", (0,), (("x", "m", (BAD,)), None))
        self.assert_wrong("made", (0, 0), (("a", "m", (BAD,)), None))
        self.assert_wrong("made", (1,), (MADE_A, None, ("c", "m", (BAD,))))
        self.assert_wrong("late", (0, 0), (("d", "m", (BAD,)), ("d", "m", (BAD,))))
        self.assert_wrong("late", (1,), (LATE_D, ("d", "m", (BAD,))))
        self.assert_wrong("pages", (0, 0), (("home", (), ("m", (BAD,))), None))
        self.assert_wrong("handlers", (0, 0), (changed(HANDLER, 4, (BAD,)), None))
        self.assert_wrong("handlers", (0,), (changed(changed(HANDLER, 4, (BAD,)), 6, "then"), None))

    def test_wrong_rows(self):
        right = full_arguments()["rows"]
        self.assert_right("rows", right)
        for bad in NO_NAMES + ("x", "y", "a", "b", "d", "e"):
            self.assert_wrong("rows", (), changed(right, 0, bad))
            self.assert_wrong("rows", (), changed(right, 2, bad))
        for bad in ("may", "", "x", None, 0, True, ("no",), ["no"]):
            self.assert_wrong("rows", (), changed(right, 1, bad))
        self.assert_wrong("rows", (), changed(right, 2, "r"))
        for bad in ("o", "", "x", None, 0, ("m",), ["n"]):
            self.assert_wrong("rows", (), changed(right, 3, bad))
        for bad in ((), (X,), (X, X, X), [X, X], None, "xx", 2, {}):
            self.assert_wrong("rows", (), changed(right, 4, bad))
        self.assert_wrong("rows", (), ("r", "no", "x", "n", (BAD, BAD)))
        self.assert_wrong("rows", (), ("r", "may", "g", "n", (BAD, BAD)))

    def test_wrong_expressions_of_rows(self):
        right = full_arguments()["rows"]
        for bad, path in WRONG_NODES:
            self.assert_wrong("rows", (0,) + path, changed(right, 4, (bad, X)))
            self.assert_wrong("rows", (0,) + path, changed(right, 4, (bad, None)))
            self.assert_wrong("rows", (1,) + path, changed(right, 4, (ROW, bad)))
        self.assert_right("rows", changed(right, 4, (B, ("pair", (("yes", "no"), ("no", "no")), ROW, A))))

    def test_wrong_items_of_pages(self):
        found = [(bad, (), None) for bad in NO_NAMES]
        needs = (["d"], "d", None, 0, {}, ("x",), ("a",), ("r",), ("q",), ("d", "d"), ("d", "e", "g", "d"), ("d", 1),
                 (None,), (["d"],), (("d",),), ("m",), ("home",), (True,), ("d", "e", "g", "q"))
        found += [("page", bad, None) for bad in needs]
        guards = (True, False, 0, "m", "", [], {}, (), ("m",), ("m", (X,), X), ["m", (X,)], ("o", (X,)), ("x", (X,)),
                  (None, (X,)), (["m"], (X,)), ("m", ()), ("m", (X, X)), ("m", [X]), ("m", X), ("n", (X,)), ("m", None),
                  ("n", (X, X, X)), (True, (X,)), ({}, (X,)))
        found += [("page", ("d",), bad) for bad in guards]
        found += [(), ("page",), ("page", ()), ("page", (), None, None), ["page", (), None], "page", None, 1, {}]
        for bad in found:
            self.assert_wrong("pages", (0,), (bad,))
            self.assert_wrong("pages", (1,), (HOME, bad))
            self.assert_wrong("pages", (2,), (HOME, VIEW, bad))
            self.assert_wrong("pages", (1,), (HOME, bad, bad))
        self.assert_wrong("pages", (1,), (HOME, HOME))
        self.assert_wrong("pages", (2,), (HOME, VIEW, ("home", ("d",), None)))

    def test_wrong_expressions_of_pages(self):
        for bad, path in WRONG_NODES:
            self.assert_wrong("pages", (0, 0) + path, (("home", (), ("m", (bad,))), VIEW))
            self.assert_wrong("pages", (1, 1) + path, (HOME, ("view", (), ("n", (X, bad)))))
            self.assert_wrong("pages", (2, 0) + path, (HOME, VIEW, ("last", (), ("n", (bad, bad)))))

    def test_needs_in_an_app_without_rows(self):
        passed = {**full_arguments(), "rows": None}
        with self.assertRaises(InvalidApp) as caught:
            App(**passed)
        self.assertEqual((caught.exception.part, caught.exception.path), ("pages", (1,)))

    def wrong_handlers(self):
        base = ("q", "m", "home", "x", (X,), ("x",), "now")
        found = [changed(base, 0, bad) for bad in NO_NAMES]
        found += [changed(base, 1, bad) for bad in ("o", "x", "home", "", None, 0, ("m",), ["m"], {}, True)]
        found += [changed(base, 2, bad) for bad in ("more", "m", "x", "", None, 0, ("home",), ["home"], {})]
        found += [changed(base, 3, bad) for bad in ("a", "d", "r", "g", "q", "m", "", None, 0, ("x",), ["x"], {})]
        found += [changed(base, 4, bad) for bad in ((), (X, X), [X], X[0], None, 1, {})]
        found += [changed(changed(base, 1, "n"), 4, bad) for bad in ((X,), (X, X, X))]
        listed = (["x"], "x", None, 0, {}, ("d",), ("r",), ("g",), ("q",), ("x", "x"), ("x", "y", "a", "b", "x"), (["x"],),
                  (("x",),), (None,), (0,), ("m",), ("home",))
        found += [changed(base, 5, bad) for bad in listed]
        found += [changed(base, 6, bad) for bad in ("", "then", "Now", None, True, 0, ("now",), ["now"], {})]
        found += [(), base[:6], base + ("now",), list(base), "q", None, 1, {}]
        return found

    def test_wrong_items_of_handlers(self):
        for bad in self.wrong_handlers():
            self.assert_wrong("handlers", (0,), (bad,))
            self.assert_wrong("handlers", (0,), (bad, bad))
            self.assert_wrong("handlers", (1,), (HANDLER, bad))
        self.assert_wrong("handlers", (1,), (HANDLER, HANDLER))
        self.assert_wrong("handlers", (1,), (HANDLER, changed(LATER, 0, "h")))

    def test_wrong_expressions_of_handlers(self):
        for bad, path in WRONG_NODES:
            self.assert_wrong("handlers", (0, 0) + path, (changed(HANDLER, 4, (bad,)), LATER))
            self.assert_wrong("handlers", (1, 0) + path, (HANDLER, changed(LATER, 4, (bad, bad))))
            self.assert_wrong("handlers", (1, 1) + path, (HANDLER, changed(LATER, 4, (X, bad))))

    def test_wrong_items_of_form(self):
        for bad in ("x", "r", "g", "q", "m", "home", "h", "yes", "", None, 0, True, ("a",), ["a"], {}, X):
            self.assert_wrong("form", (0,), (bad,))
            self.assert_wrong("form", (0,), (bad, bad))
            self.assert_wrong("form", (1,), ("a", bad))
        self.assert_wrong("form", (1,), ("a", "a"))
        self.assert_wrong("form", (1,), ("d", "d"))
        for right in (("a",), ("d",), ("b", "e"), ("e", "b")):
            self.assert_right("form", right)

    def test_any_value_for_each_argument(self):
        for part in ORDER:
            for value in STRANGE + (("x" * 4000,) * 2, 10 ** 3999, tuple(range(100000))):
                if value is None and part in ("rows", "form") or value == () and part in ("made", "late", "handlers"):
                    continue
                if part == "words" and value == ("slot", "x"):
                    continue
                arguments = {**full_arguments(), part: value}
                with self.assertRaises(InvalidApp) as caught:
                    App(**arguments)
                self.assertEqual(caught.exception.part, part)

    def test_long_tuples_are_refused_at_once(self):
        long = ("d",) * 100000
        self.assert_wrong("pages", (0,), (("home", long, None),))
        self.assert_wrong("pages", (0,), (("home", (), ("m", long)),))
        self.assert_wrong("handlers", (0,), (changed(HANDLER, 5, ("x",) * 100000),))
        self.assert_wrong("form", (), ("a",) * 100000)

    def test_a_list_in_the_place_of_any_tuple(self):
        for part, value in full_arguments().items():
            for bad in with_list(value):
                with self.assertRaises(InvalidApp) as caught:
                    App(**{**full_arguments(), part: bad})
                self.assertEqual(caught.exception.part, part)

    def test_a_flag_in_the_place_of_any_number(self):
        for bad in with_flag(full_arguments()["modules"]):
            self.assert_wrong("modules", (0,), bad)

    def test_the_order_of_the_arguments(self):
        wrong = {part: 7 for part in ORDER}
        deep = {"made": (("a", "m", (BAD,)),), "late": (LATE_D, ("e", "m", (BAD,))), "words": ("yes", "yes"),
                "rows": ("r", "no", "g", "n", (ROW, BAD)), "pages": (HOME, ("view", (), ("m", (BAD,)))),
                "handlers": (changed(HANDLER, 4, (BAD,)),), "form": ("a", "a"), "modules": (("m", 1), ("m", 1)),
                "inputs": (("x", "yes"), ("y", "may"))}
        for first, second in itertools.combinations(ORDER, 2):
            for one, two in itertools.product((wrong, deep), repeat=2):
                arguments = {**full_arguments(), first: one[first], second: two[second]}
                with self.assertRaises(InvalidApp) as caught:
                    App(**arguments)
                self.assertEqual(caught.exception.part, first)
        with self.assertRaises(InvalidApp) as caught:
            App(None, None, None, None, made=None, late=None, rows=0, handlers=None, form=0)
        self.assertEqual((caught.exception.part, caught.exception.path), ("words", ()))

    def test_a_part_that_became_wrong_by_another_one(self):
        changes = (
            ({"words": ("no", "may")}, "inputs", (0,)),
            ({"inputs": (("x", "yes"),)}, "made", (1, 0)),
            ({"inputs": (("x", "yes"), ("b", "no"))}, "made", (1,)),
            ({"inputs": (("x", "yes"), ("y", "no"), ("e", "no"))}, "late", (1,)),
            ({"inputs": (("x", "yes"), ("y", "no"), ("r", "no"))}, "rows", ()),
            ({"inputs": (("x", "yes"), ("y", "no"), ("g", "no"))}, "rows", ()),
            ({"modules": (("m", 1), ("n", 1))}, "made", (1,)),
            ({"modules": (("n", 2),)}, "made", (0,)),
            ({"made": (MADE_A,)}, "late", (0, 1)),
            ({"late": (LATE_D,)}, "pages", (2,)),
            ({"pages": (HOME,)}, "handlers", (1,)),
        )
        for change, part, path in changes:
            with self.assertRaises(InvalidApp) as caught:
                full_app(**change)
            self.assertEqual((caught.exception.part, caught.exception.path), (part, path), change)


if __name__ == "__main__":
    unittest.main()
