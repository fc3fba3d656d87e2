"""[5] and [7]: right apps, and what an app offers."""

import inspect
import unittest

from onesession.apps import App
from onesession.errors import NoPart
from tests.samples import BOTH, NOT_X, STRANGE, X, Y, YN, YNM, copied, full_app, full_arguments, interface_app
from tests.samples import random_app, sources

class AttributesTest(unittest.TestCase):
    def test_the_nine_values(self):
        passed = full_arguments()
        app = full_app()
        for name, value in passed.items():
            self.assertEqual(getattr(app, name), value)

    def test_the_names(self):
        app = full_app()
        self.assertEqual(app.right, "yes")
        self.assertEqual(app.module_names, ("m", "n"))
        self.assertEqual(app.input_names, ("x", "y"))
        self.assertEqual(app.made_names, ("a", "b"))
        self.assertEqual(app.late_names, ("d", "e"))
        self.assertEqual(app.late_slots, ("d", "e", "g"))
        self.assertEqual(app.page_names, ("home", "view", "last"))
        self.assertEqual(app.handler_names, ("h", "k"))

    def test_the_right_word_is_the_first_one(self):
        app = App(("no", "may", "yes"), (("m", 1),), (("x", "yes"),), (("home", (), None),))
        self.assertEqual(app.right, "no")

    def test_what_is_left_out(self):
        app = App(YN, (("m", 1),), (("x", "no"),), (("home", (), None),))
        self.assertEqual((app.made, app.late, app.rows, app.handlers, app.form), ((), (), None, (), None))
        names = (app.made_names, app.late_names, app.late_slots, app.handler_names)
        self.assertEqual(names, ((), (), (), ()))
        same = App(YN, (("m", 1),), (("x", "no"),), (("home", (), None),), made=(), late=(), rows=None, handlers=(), form=None)
        self.assertEqual(app, same)

    def test_rows_without_late_slots(self):
        app = App(YN, (("m", 1),), (("x", "no"),), (("home", ("g",), None),), rows=("r", "no", "g", "m", (("slot", "r"),)))
        self.assertEqual((app.late_names, app.late_slots), ((), ("g",)))
        self.assertEqual(app.exprs_of("g"), ("m", (("slot", "r"),)))

    def test_the_arguments_behind_the_star_are_passed_by_keyword(self):
        found = inspect.getfullargspec(App.__init__)
        self.assertEqual(found.args, ["self", "words", "modules", "inputs", "pages"])
        self.assertEqual(found.kwonlyargs, ["made", "late", "rows", "handlers", "form"])
        self.assertEqual(found.kwonlydefaults, {"made": (), "late": (), "rows": None, "handlers": (), "form": None})

    def test_what_is_passed_stays_as_it_was(self):
        passed = full_arguments()
        before = copied(passed)
        app = App(**passed)
        app.exprs_of("d")
        self.assertRaises(NoPart, app.exprs_of, [])
        self.assertEqual(passed, before)


class RightAppsTest(unittest.TestCase):
    def test_the_app_of_the_interface(self):
        app = interface_app()
        self.assertEqual(app.late_slots, ("d",))

    def test_the_least_and_the_most_of_everything(self):
        slot = ("slot", "x")
        home = ("home", ("d", "e", "f", "g"), ("m", (slot, slot)))
        app = App(
            YNM, (("m", 2), ("n", 2)), (("x", "no"), ("y", "may"), ("z", "yes")), (home, ("b", (), None), ("c", (), None)),
            made=(("a", "m", (slot, slot)), ("aa", "n", (slot, ("slot", "a"))), ("aaa", "n", (("slot", "aa"), slot))),
            late=(("d", "m", (slot, slot)), ("e", "n", (slot, slot)), ("f", "n", (slot, ("slot", "aaa")))),
            rows=("r", "may", "g", "m", (("slot", "r"), ("slot", "aaa"))),
            handlers=(("h", "m", "b", "z", (slot, slot), ("x", "y", "z", "a", "aa", "aaa"), "now"),
                      ("k", "n", "b", "z", (slot, slot), (), "later")),
            form=("f", "aaa"))
        self.assertEqual(app.late_slots, ("d", "e", "f", "g"))

    def test_parts_of_other_kinds_may_have_the_same_names(self):
        pages = (("x", (), None), ("m", (), None))
        handlers = (("x", "x", "m", "x", (X,), (), "now"), ("m", "x", "x", "x", (X,), (), "now"))
        app = App(("x", "m"), (("x", 1), ("m", 1)), (("x", "x"),), pages, handlers=handlers)
        self.assertEqual((app.page_names, app.handler_names), (("x", "m"), ("x", "m")))

    def test_names_of_one_and_of_eight_letters(self):
        app = App(("a", "abcdefgh"), (("z", 1),), (("zzzzzzzz", "a"),), (("q", (), None),))
        self.assertEqual(app.input_names, ("zzzzzzzz",))

    def test_many_apps(self):
        for source in sources(200):
            app = random_app(source)
            self.assertEqual(app.late_slots[:len(app.late)], app.late_names)


class AskingTest(unittest.TestCase):
    def test_exprs_of(self):
        app = full_app()
        self.assertEqual(app.exprs_of("a"), ("m", (NOT_X,)))
        self.assertEqual(app.exprs_of("b"), ("n", (Y, ("slot", "a"))))
        self.assertEqual(app.exprs_of("d"), ("n", (X, ("slot", "b"))))
        self.assertEqual(app.exprs_of("e"), ("m", (BOTH,)))
        self.assertEqual(app.exprs_of("g"), ("n", (("slot", "r"), X)))

    def test_page_named_and_handler_named(self):
        app = full_app()
        for page in app.pages:
            self.assertEqual(app.page_named(page[0]), page)
        for handler in app.handlers:
            self.assertEqual(app.handler_named(handler[0]), handler)

    def assert_no_part(self, asked, values):
        for value in values:
            with self.assertRaises(NoPart) as caught:
                asked(value)
            self.assertIs(caught.exception.value, value)

    def test_other_values_are_no_parts(self):
        app = full_app()
        large = (10 ** 3999, "x" * 4000, [["d"]], ("d",), ["d"], {"d": "d"})
        self.assert_no_part(app.exprs_of, STRANGE + large + ("x", "y", "r", "m", "home", "h", "yes", "c"))
        self.assert_no_part(app.page_named, STRANGE + large + ("x", "a", "d", "m", "h", "yes", app.pages[0]))
        self.assert_no_part(app.handler_named, STRANGE + large + ("x", "a", "d", "m", "home", "yes", app.handlers[0]))

    def test_in_an_app_without_rows_handlers_and_so_on(self):
        app = App(YN, (("m", 1),), (("x", "no"),), (("home", (), None),))
        self.assert_no_part(app.exprs_of, STRANGE + ("x", None, "g"))
        self.assert_no_part(app.handler_named, STRANGE + ("h",))


class EqualityTest(unittest.TestCase):
    def test_equal_apps(self):
        self.assertTrue(full_app() == full_app())
        self.assertFalse(full_app() != full_app())
        self.assertEqual(interface_app(), interface_app())
        self.assertFalse(full_app() == interface_app())

    def test_apps_that_differ_in_one_value(self):
        least = {"words": YN, "modules": (("m", 1), ("n", 1)), "inputs": (("x", "no"), ("y", "no")),
                 "pages": (("home", (), None), ("view", (), None)), "made": (("a", "m", (X,)),),
                 "late": (("d", "m", (X,)),), "rows": ("r", "no", "g", "m", (X,)),
                 "handlers": (("h", "m", "home", "x", (X,), (), "now"),), "form": ("a",)}
        others = {
            "words": (("yes", "no", "may"), ("no", "yes")),
            "modules": ((("m", 1), ("n", 2)), (("m", 1),), (("n", 1), ("m", 1))),
            "inputs": ((("x", "no"), ("y", "yes")), (("x", "no"),), (("y", "no"), ("x", "no"))),
            "pages": ((("home", (), None),), (("home", (), None), ("view", ("d",), None)),
                      (("home", (), None), ("view", (), ("m", (X,))))),
            "made": ((("a", "n", (X,)),), (("a", "m", (Y,)),), (("a", "m", (X,)), ("b", "m", (X,)))),
            "late": ((("d", "m", (Y,)),), (("e", "m", (X,)),), ()),
            "rows": (None, ("r", "yes", "g", "m", (X,)), ("r", "no", "g", "m", (Y,))),
            "handlers": ((), (("h", "m", "home", "x", (X,), (), "later"),), (("h", "m", "home", "x", (X,), ("x",), "now"),)),
            "form": (None, ("d",), ("a", "d")),
        }
        self.assertEqual(set(others), set(least))
        self.assertEqual(App(**least), App(**copied(least)))
        for name, values in others.items():
            for value in values:
                one = App(**least)
                two = App(**{**least, name: value})
                with self.subTest(name, value=value):
                    self.assertFalse(one == two)
                    self.assertFalse(two == one)
                    self.assertTrue(one != two)
                    self.assertTrue(two == App(**{**least, name: value}))


if __name__ == "__main__":
    unittest.main()
