"""[32]: windows that come apart."""

import unittest

from onesession.apps import App
from onesession.errors import NoPart
from onesession.rules import Rule
from onesession.windows import ORDERS, Windows, apart_inputs, apart_session, begin_windows, is_all_quiet
from onesession.windows import is_window_deed, settling, step_windows, window_faults, words_of
from tests.samples import STRANGE, X, YN, YNM, copied, full_app, random_app, random_rule, sources
from tests.test_windows import random_window_deed, random_windows

HOME = (("home", (), None),)


def bare(words, order, number, shared=("x",)):
    """Windows of an app with inputs alone."""
    inputs = (("x", words[0]), ("y", words[1]))
    return Windows(App(words, (("m", 1),), inputs, HOME), Rule(), shared, order, number)


def can_be_apart(order, words):
    """Tell whether the document says that a shared input can be apart."""
    return order == "arrival" or (order == "count" and len(words) == 3)


def faults_at_the_end(windows, deeds):
    """The faults of the last WindowStep of some deeds."""
    last = begin_windows(windows)
    for deed in deeds:
        last = step_windows(windows, last.standing, deed)
    return window_faults(windows, last)


class ApartInputsTest(unittest.TestCase):
    def test_each_order(self):
        for words in (YN, YNM):
            for order in ORDERS:
                for number in (2, 3):
                    for shared in ((), ("x",), ("y", "x"), ("x", "y")):
                        windows = bare(words, order, number, shared)
                        expected = list(shared) if can_be_apart(order, words) else []
                        self.assertEqual(apart_inputs(windows), expected)

    def test_a_new_list_each_time(self):
        windows = bare(YN, "arrival", 2)
        told = apart_inputs(windows)
        self.assertIs(type(told), list)
        told.clear()
        self.assertEqual(apart_inputs(windows), ["x"])


class ApartSessionTest(unittest.TestCase):
    def assert_apart(self, windows, slot):
        told = apart_session(windows, slot)
        self.assertIs(type(told), list)
        for deed in told:
            self.assertTrue(is_window_deed(windows, deed))
        self.assertIn(("apart", slot), faults_at_the_end(windows, told))
        kept = copied(told)
        told.clear()
        self.assertIn(("apart", slot), faults_at_the_end(windows, apart_session(windows, slot)))
        self.assertGreater(len(kept), 1)

    def test_each_order(self):
        for words in (YN, YNM):
            for order in ORDERS:
                for number in (2, 3):
                    for shared in (("x",), ("y", "x"), ("x", "y")):
                        windows = bare(words, order, number, shared)
                        for slot in shared:
                            if can_be_apart(order, words):
                                self.assert_apart(windows, slot)
                            else:
                                self.assertIsNone(apart_session(windows, slot))

    def test_with_late_slots_and_a_first_word_that_is_not_the_first_one(self):
        for first in YNM:
            for order in ("arrival", "count"):
                for number in (2, 3):
                    app = App(YNM, (("m", 1),), (("x", first),), HOME, late=(("d", "m", (X,)),), rows=("r", "no", "g", "m", (X,)))
                    for rule in (Rule(), Rule(again="match", one="one"), Rule(newest=True, again="match", words=False)):
                        self.assert_apart(Windows(app, rule, ("x",), order, number), "x")

    def test_random_apps(self):
        for source in sources(100):
            app = random_app(source)
            for order in ORDERS:
                windows = Windows(app, random_rule(source), app.input_names, order, source.choice((2, 3)))
                self.assertEqual(apart_inputs(windows), list(app.input_names) if can_be_apart(order, app.words) else [])
                for slot in app.input_names:
                    if slot in apart_inputs(windows):
                        self.assert_apart(windows, slot)
                    else:
                        self.assertIsNone(apart_session(windows, slot))

    def test_no_part(self):
        for order in ORDERS:
            windows = Windows(full_app(), Rule(), ("y",), order, 2)
            for slot in [*STRANGE, "x", "a", "d", "r", "g", ("y",), ["y"], "home"]:
                with self.assertRaises(NoPart) as caught:
                    apart_session(windows, slot)
                self.assertEqual(repr(caught.exception.value), repr(slot))


class NeverApartTest(unittest.TestCase):
    def test_random_sessions(self):
        for order in ("count", "stamp"):
            seen = 0
            for source in sources(80):
                windows = random_windows(source, order=order)
                if can_be_apart(order, windows.app.words):
                    continue
                standing = begin_windows(windows).standing
                for _ in range(30):
                    deed = random_window_deed(source, windows, standing)
                    standing = step_windows(windows, standing, deed).standing
                for deed in settling(windows, standing):
                    standing = step_windows(windows, standing, deed).standing
                for slot in windows.shared:
                    self.assertEqual(len(set(words_of(windows, standing, slot))), 1)
                    seen += 1
            self.assertGreater(seen, 30)

    def test_all_short_sessions(self):
        # All sessions with at most four changes: some leave the windows apart exactly where the document says so.
        for words, order in ((YN, "count"), (YN, "stamp"), (YNM, "stamp"), (YN, "arrival"), (YNM, "count")):
            windows = bare(words, order, 2)
            first = begin_windows(windows).standing
            row, known, apart = [(first, 0)], {first}, 0
            for standing, changes in row:
                if is_all_quiet(standing) and len(set(words_of(windows, standing, "x"))) > 1:
                    apart += 1
                deeds = [("hear", window, number) for window in (0, 1) for number in range(len(standing[2]))]
                sets = [("at", window, ("set", "x", word)) for window in (0, 1) for word in words]
                for deed in deeds + (sets if changes < 4 else []):
                    behind = step_windows(windows, standing, deed).standing
                    if behind not in known:
                        known.add(behind)
                        row.append((behind, changes + (deed[0] == "at")))
            self.assertEqual(apart > 0, can_be_apart(order, words))


if __name__ == "__main__":
    unittest.main()
