"""[28], [29], [30] and [31]: windows."""

import unittest

from onesession.apps import App
from onesession.deeds import all_deeds
from onesession.errors import BadDeed, InvalidWindows, NoPart
from onesession.journal import play
from onesession.judging import faults
from onesession.rules import Rule
from onesession.running import Step, begin, step
from onesession.standings import is_quiet
from onesession.windows import ORDERS, WindowStep, Windows, all_window_deeds, begin_windows, is_all_quiet
from onesession.windows import is_window_deed, own_deeds, settling, step_windows, window_faults, words_of
from tests.samples import NOT_X, STRANGE, X, YN, YNM, copied, full_app, interface_app, random_app, random_deed
from tests.samples import random_rule, sources, with_flag, with_list
from tests.window_model import WindowModel

HOME = (("home", (), None),)


def two_inputs(words=YN, **changes):
    """An app with two inputs and nothing late, if nothing else is passed."""
    return App(words, (("m", 1),), (("x", "yes"), ("y", "no")), HOME, **changes)


def plain(order="arrival", number=2, shared=("x", "y"), words=YN):
    """Windows of an app with two inputs."""
    return Windows(two_inputs(words), Rule(), shared, order, number)


def done(windows, *deeds):
    """The last WindowStep of some deeds."""
    last = begin_windows(windows)
    for deed in deeds:
        last = step_windows(windows, last.standing, deed)
    return last


def set_at(window, slot, word):
    """The deed with which a window sets an input."""
    return ("at", window, ("set", slot, word))


def shown(last):
    """What a WindowStep has."""
    steps = tuple(None if one is None else (one.standing, one.events) for one in last.steps)
    return (last.standing, steps, last.heard)


def random_windows(source, **fixed):
    """Random windows of a random app."""
    app = random_app(source)
    shared = tuple(source.sample(app.input_names, source.randint(0, len(app.input_names))))
    passed = {"shared": shared, "order": source.choice(ORDERS), "number": source.choice((2, 3)), **fixed}
    return Windows(app, random_rule(source), **passed)


def random_window_deed(source, windows, standing):
    """A random deed of windows, often one that is heard or one that changes an input."""
    hears = [deed for deed in all_window_deeds(windows, standing) if deed[0] == "hear"]
    if hears and source.random() < 0.4:
        return source.choice(hears)
    window = source.randrange(windows.number)
    deeds = [deed for deed in all_deeds(windows.app, standing[0][window]) if deed[0] == "set"]
    if source.random() < 0.6:
        deeds = [random_deed(source, windows.app, standing[0][window])]
    return ("at", window, source.choice(deeds))


class WindowsTest(unittest.TestCase):
    def test_attributes(self):
        app, rule = interface_app(), Rule(one="one")
        for shared in ((), ("x",)):
            for order in ORDERS:
                for number in (2, 3):
                    windows = Windows(app, rule, shared, order, number)
                    told = (windows.app, windows.rule, windows.shared, windows.order, windows.number)
                    self.assertEqual(told, (app, rule, shared, order, number))

    def test_orders(self):
        self.assertEqual(ORDERS, ("arrival", "count", "stamp"))

    def assert_invalid(self, part, shared, order, number):
        kept = copied((shared, order, number))
        with self.assertRaises(InvalidWindows) as caught:
            Windows(full_app(), Rule(), shared, order, number)
        self.assertEqual(caught.exception.part, part)
        self.assertEqual(repr((shared, order, number)), repr(kept))

    def test_wrong_shared(self):
        wrong = [value for value in STRANGE if value not in ((), ("x",))]
        for shared in [*wrong, "x", ["x"], ("x", "x"), ("x", "y", "x"), ("a",), ("d",), ("r",), ("x", "zzz"), ("x", None),
                       (("x",),), (["x"],), ({},), {"x": "y"}, ("x",) * 50, (0,), ("x", True)]:
            for order, number in (("arrival", 2), ("zzz", 2), ("arrival", 9), (None, [])):
                self.assert_invalid("shared", shared, order, number)

    def test_wrong_order(self):
        for order in [*STRANGE, "Arrival", "stamps", ("arrival",), ["count"], {"stamp": 1}, b"count"]:
            for number in (2, 4, True):
                self.assert_invalid("order", ("x",), order, number)

    def test_wrong_number(self):
        for number in [*STRANGE, 4, -2, 1, True, "2", (2,), [2], {2: 3}, 10 ** 100]:
            self.assert_invalid("number", ("y", "x"), "count", number)
        for number in (2, 3):
            self.assertEqual(Windows(full_app(), Rule(), ("y", "x"), "count", number).number, number)

    def test_equality(self):
        def made(**changes):
            passed = {"app": full_app(), "rule": Rule(), "shared": ("x", "y"), "order": "count", "number": 2, **changes}
            return Windows(**passed)

        self.assertTrue(made() == made())
        self.assertFalse(made() != made())
        changes = [{"app": full_app(form=("d",))}, {"rule": Rule(one="one")}, {"shared": ("y", "x")}, {"shared": ("x",)},
                   {"order": "stamp"}, {"number": 3}]
        for change in changes:
            self.assertFalse(made() == made(**change))
            self.assertTrue(made(**change) == made(**change))


class WindowDeedsTest(unittest.TestCase):
    def test_right_deeds(self):
        windows = Windows(full_app(), Rule(), ("x",), "stamp", 3)
        for window in range(3):
            standing = begin_windows(windows).standing
            for deed in all_deeds(windows.app, standing[0][0]) + [("land", 10 ** 50), ("timer", 4)]:
                self.assertIs(is_window_deed(windows, ("at", window, deed)), True)
            for number in (0, 1, 5, 10 ** 50):
                self.assertIs(is_window_deed(windows, ("hear", window, number)), True)

    def wrong(self, windows):
        """Values that are no deeds of windows of an app with an input x."""
        right = [set_at(1, "x", "no"), ("at", 0, ("land", 1)), ("hear", 1, 0), ("hear", 0, 1), ("at", 1, ("reopen", (0, 1)))]
        wrong = [item for deed in right for item in with_flag(deed) + with_list(deed)]
        wrong += [deed[:at] + deed[at + 1:] for deed in right for at in range(3)]
        wrong += [deed + (0,) for deed in right] + [deed[::-1] for deed in right] + [(deed,) for deed in right]
        numbers = (-1, windows.number, 10 ** 40, True, False, None, "0", (0,), [0])
        wrong += [(deed[0], number, deed[2]) for deed in right for number in numbers]
        wrong += [(head, *deed[1:]) for deed in right for head in ("At", "", None, 0, ("at",), ["at"])]
        wrong += [("at", 0, deed) for deed in [*STRANGE, ("land", -1), ("set", "x"), ("at", 0, ("land", 0)), ("hear", 0, 0)]]
        wrong += [("hear", 0, number) for number in STRANGE if not (type(number) is int and number >= 0)]
        wrong += [("hear", 0, ("land", 0)), ("at", 0, 0)]
        return wrong + [*STRANGE, "at", ("set", "x", "no"), ("land", 0)]

    def test_wrong_deeds(self):
        for number in (2, 3):
            windows = Windows(full_app(), Rule(), ("x",), "stamp", number)
            for value in self.wrong(windows):
                kept = copied(value)
                self.assertIs(is_window_deed(windows, value), False, repr(value))
                self.assertEqual(repr(value), repr(kept))

    def test_wrong_deeds_are_refused(self):
        windows = Windows(full_app(), Rule(), ("x",), "stamp", 2)
        standing = begin_windows(windows).standing
        for value in self.wrong(windows):
            with self.assertRaises(BadDeed) as caught:
                step_windows(windows, standing, value)
            self.assertEqual(repr(caught.exception.deed), repr(value))

    def test_the_deeds_that_the_app_has_not(self):
        windows = Windows(interface_app(), Rule(), ("x",), "stamp", 2)
        for deed in (("send",), ("add", 1), ("press", "h"), ("go", "zzz"), ("edit", "m", 2)):
            self.assertIs(is_window_deed(windows, ("at", 0, deed)), False)

    def test_all_window_deeds(self):
        windows = plain(number=3)
        last = done(windows, set_at(1, "x", "no"), set_at(0, "y", "yes"), set_at(1, "x", "yes"))
        told = all_window_deeds(windows, last.standing)
        self.assertIs(type(told), list)
        expected = [("at", window, deed) for window in range(3) for deed in all_deeds(windows.app, last.standing[0][window])]
        expected += [("hear", 0, 0), ("hear", 0, 1), ("hear", 1, 0), ("hear", 2, 0), ("hear", 2, 1), ("hear", 2, 2)]
        self.assertEqual(told, expected)
        told.clear()
        self.assertEqual(all_window_deeds(windows, last.standing), expected)

    def test_all_window_deeds_with_acts_of_one_window(self):
        windows = Windows(interface_app(), Rule(), (), "count", 2)
        last = done(windows, ("at", 1, ("land", 0)))
        told = all_window_deeds(windows, last.standing)
        self.assertEqual(told[0], ("at", 0, ("land", 0)))
        self.assertEqual([deed for deed in told if deed[2][0] == "land"], [("at", 0, ("land", 0))])
        self.assertEqual(len(told), 2 * len(all_deeds(windows.app, last.standing[0][1])) + 1)


class BeginTest(unittest.TestCase):
    def test_begin(self):
        for number in (2, 3):
            windows = Windows(full_app(), Rule(), ("y", "x"), "count", number)
            last = begin_windows(windows)
            first = begin(windows.app, windows.rule)
            self.assertIsInstance(last, WindowStep)
            marks = ((0, (0, 0)),) * 2
            self.assertEqual(last.standing, ((first.standing,) * number, (marks,) * number, ()))
            self.assertEqual(shown(last)[1:], (((first.standing, first.events),) * number, None))
            self.assertTrue(all(isinstance(one, Step) for one in last.steps))
            self.assertIs(type(last.steps), tuple)

    def test_nothing_shared(self):
        last = begin_windows(plain(shared=()))
        self.assertEqual(last.standing[1:], (((), ()), ()))


class ChangeTest(unittest.TestCase):
    def test_set(self):
        windows = plain()
        last = done(windows, set_at(0, "x", "no"))
        expected = step(windows.app, windows.rule, begin(windows.app, windows.rule).standing, ("set", "x", "no"))
        self.assertEqual(last.standing[0][0], expected.standing)
        self.assertEqual(last.standing[0][1], begin(windows.app, windows.rule).standing)
        self.assertEqual(last.standing[1], (((1, (1, 0)), (0, (0, 0))), ((0, (0, 0)), (0, (0, 0)))))
        self.assertEqual(last.standing[2], ((1, "x", "no", (1, 0)),))
        self.assertEqual(shown(last)[1:], (((expected.standing, expected.events), None), None))

    def test_messages_to_two_other_windows(self):
        windows = plain(number=3)
        for window, others in ((0, (1, 2)), (1, (0, 2)), (2, (0, 1))):
            last = done(windows, set_at(window, "y", "yes"))
            self.assertEqual(last.standing[2], tuple((to, "y", "yes", (1, window)) for to in others))
            self.assertEqual([one is None for one in last.steps], [at != window for at in range(3)])
        last = done(windows, set_at(1, "x", "no"), set_at(0, "x", "no"), set_at(1, "x", "yes"))
        expected = [(0, "no", (1, 1)), (2, "no", (1, 1)), (1, "no", (1, 0)), (2, "no", (1, 0)), (0, "yes", (2, 1)), (2, "yes", (2, 1))]
        self.assertEqual(last.standing[2], tuple((to, "x", word, stamp) for to, word, stamp in expected))

    def test_an_input_that_is_not_shared(self):
        windows = plain(shared=("y",))
        last = done(windows, set_at(0, "x", "no"))
        self.assertEqual(last.standing[0][0][0], ("no", "no"))
        self.assertEqual(last.standing[1:], ((((0, (0, 0)),),) * 2, ()))

    def test_a_word_that_is_there_already_sends_nothing(self):
        windows = plain()
        last = done(windows, set_at(1, "x", "yes"))
        first = begin(windows.app, windows.rule)
        self.assertEqual(last.standing, begin_windows(windows).standing)
        self.assertEqual(shown(last)[1:], ((None, (first.standing, ())), None))

    def test_press(self):
        for exprs, word in (((NOT_X,), "no"), ((X,), "yes")):
            handlers = (("h", "m", "home", "x", exprs, (), "now"),)
            windows = Windows(two_inputs(handlers=handlers), Rule(), ("y", "x"), "stamp", 2)
            last = done(windows, ("at", 1, ("press", "h")))
            self.assertEqual(last.steps[1].events, (("pressed", "h", word, word),))
            sent = ((0, "x", "no", (1, 1)),) if word == "no" else ()
            self.assertEqual(last.standing[2], sent)
            self.assertEqual(last.standing[1][1][1], (1, (1, 1)) if sent else (0, (0, 0)))

    def test_timer(self):
        handlers = (("h", "m", "home", "x", (("word", "no"),), (), "later"),)
        windows = Windows(two_inputs(handlers=handlers), Rule(timers="held"), ("x",), "count", 2)
        press, timer = ("at", 0, ("press", "h")), ("at", 0, ("timer", 0))
        self.assertEqual(done(windows, press).standing[2], ())
        self.assertEqual(done(windows, press, timer).standing[2], ((1, "x", "no", (1, 0)),))
        self.assertEqual(done(windows, press, press, timer, timer).standing[2], ((1, "x", "no", (1, 0)),))

    def test_other_deeds_send_nothing(self):
        windows = Windows(full_app(), Rule(), ("x", "y"), "count", 2)
        for deed in all_deeds(windows.app, begin_windows(windows).standing[0][0]):
            last = done(windows, ("at", 0, deed))
            sends = deed in (("set", "x", "no"), ("set", "y", "yes"), ("press", "h"))
            self.assertEqual(len(last.standing[2]), int(sends), deed)


class HearTest(unittest.TestCase):
    def test_taken_under_each_order(self):
        for order in ORDERS:
            windows = plain(order)
            ahead = done(windows, set_at(0, "x", "no"))
            last = step_windows(windows, ahead.standing, ("hear", 1, 0))
            self.assertEqual(last.heard, (1, "x", "no", (1, 0), True))
            expected = step(windows.app, windows.rule, ahead.standing[0][1], ("set", "x", "no"))
            self.assertEqual(shown(last)[1], (None, (expected.standing, expected.events)))
            self.assertEqual(last.standing, ((ahead.standing[0][0], expected.standing),
                                             (((1, (1, 0)), (0, (0, 0))),) * 2, ()))

    def test_the_other_order(self):
        deeds = [set_at(0, "x", "no"), set_at(0, "x", "yes"), ("hear", 1, 1), ("hear", 1, 0)]
        for order, taken in (("arrival", True), ("count", False), ("stamp", False)):
            windows = plain(order)
            ahead = done(windows, *deeds[:3])
            self.assertEqual(ahead.heard, (1, "x", "yes", (2, 0), True))
            self.assertEqual(ahead.steps[1].events, ())
            self.assertEqual(ahead.standing[1][1][0], (2, (2, 0)))
            last = done(windows, *deeds)
            self.assertEqual(last.heard, (1, "x", "no", (1, 0), taken))
            self.assertEqual(words_of(windows, last.standing, "x"), ("yes", "no" if taken else "yes"))
            # The greatest count that was seen stays, and the stamp is that of the word.
            self.assertEqual(last.standing[1][1][0], (2, (1, 0) if taken else (2, 0)))
            if not taken:
                self.assertEqual(last.steps, (None, None))
                self.assertEqual(last.standing[0], ahead.standing[0])

    def test_equal_counts(self):
        deeds = [set_at(0, "x", "no"), set_at(1, "x", "may")]
        for order, taken in (("arrival", (True, True)), ("count", (False, False)), ("stamp", (True, False))):
            windows = plain(order, words=YNM)
            zero = done(windows, *deeds, ("hear", 0, 0))
            self.assertEqual(zero.heard, (0, "x", "may", (1, 1), taken[0]))
            self.assertEqual(zero.standing[1][0][0], (1, (1, 1) if taken[0] else (1, 0)))
            one = done(windows, *deeds, ("hear", 1, 0))
            self.assertEqual(one.heard, (1, "x", "no", (1, 0), taken[1]))
            self.assertEqual(one.standing[1][1][0], (1, (1, 0) if taken[1] else (1, 1)))

    def test_a_count_that_is_seen_but_not_taken(self):
        # Under "arrival" the stamp can have an elder count than was seen; the next change goes on from there.
        windows = plain("arrival")
        deeds = [set_at(0, "x", "no"), set_at(0, "x", "yes"), ("hear", 1, 1), ("hear", 1, 0), set_at(1, "x", "yes")]
        last = done(windows, *deeds)
        self.assertEqual(last.standing[1][1][0], (3, (3, 1)))
        self.assertEqual(last.standing[2], ((0, "x", "yes", (3, 1)),))

    def test_hearing_sends_nothing(self):
        windows = plain(number=3)
        last = done(windows, set_at(0, "x", "no"), ("hear", 1, 0))
        self.assertEqual(last.standing[2], ((2, "x", "no", (1, 0)),))

    def test_the_number_counts_the_messages_to_the_window(self):
        windows = plain(number=3)
        deeds = [set_at(0, "x", "no"), set_at(0, "y", "yes"), set_at(1, "y", "yes")]
        self.assertEqual([message[:2] for message in done(windows, *deeds).standing[2]],
                         [(1, "x"), (2, "x"), (1, "y"), (2, "y"), (0, "y"), (2, "y")])
        for number, heard in enumerate((("x", (1, 0)), ("y", (1, 0)), ("y", (1, 1)))):
            last = done(windows, *deeds, ("hear", 2, number))
            self.assertEqual((last.heard[1], last.heard[3]), heard)
            self.assertEqual(len(last.standing[2]), 5)
            self.assertNotIn((2,) + last.heard[1:4], last.standing[2])

    def test_a_message_that_is_not_there(self):
        windows = plain(number=3)
        ahead = done(windows, set_at(0, "x", "no"))
        for deed in (("hear", 0, 0), ("hear", 1, 1), ("hear", 2, 10 ** 60)):
            last = step_windows(windows, ahead.standing, deed)
            self.assertEqual(shown(last), (ahead.standing, (None,) * 3, None))

    def test_what_a_message_does_in_a_session(self):
        windows = Windows(interface_app(), Rule(), ("x",), "count", 2)
        last = done(windows, set_at(0, "x", "no"), ("hear", 1, 0))
        self.assertEqual(last.steps[1].events, (("begun", "d", 0),))


class ModelTest(unittest.TestCase):
    def test_against_the_model(self):
        heard = set()
        for source in sources(250):
            windows = random_windows(source)
            model = WindowModel(windows)
            last = begin_windows(windows)
            for _ in range(30):
                deed = random_window_deed(source, windows, last.standing)
                kept = copied(last.standing)
                ahead, last = last, step_windows(windows, last.standing, deed)
                self.assertEqual(ahead.standing, kept)
                made, told = model.do(deed)
                self.assertEqual(repr(last.standing), repr(model.standing()))
                self.assertEqual(last.heard, told)
                events = [None] * windows.number
                if made is not None:
                    events[made[0]] = made[2]
                self.assertEqual([None if one is None else one.events for one in last.steps], events)
                heard.add((windows.order, told and told[4]))
                self.assertEqual(is_all_quiet(last.standing), model.is_quiet())
                expected = []
                if made is not None:
                    expected = [(made[0], *fault) for fault in faults(windows.app, windows.rule, last.steps[made[0]])]
                apart = [("apart", slot) for slot in model.apart()] if model.is_quiet() else []
                self.assertEqual(window_faults(windows, last), expected + apart)
        self.assertEqual(heard, {(order, taken) for order in ORDERS for taken in (None, True, False)} - {("arrival", False)})


class QuietTest(unittest.TestCase):
    def test_is_all_quiet(self):
        windows = Windows(interface_app(), Rule(), ("x",), "count", 2)
        deeds = [("at", 0, ("land", 0)), ("at", 1, ("land", 0))]
        told = [is_all_quiet(done(windows, *deeds[:number]).standing) for number in range(3)]
        self.assertEqual(told, [False, False, True])

    def test_a_message_is_not_quiet(self):
        windows = plain("stamp")
        self.assertIs(is_all_quiet(begin_windows(windows).standing), True)
        self.assertIs(is_all_quiet(done(windows, set_at(0, "x", "no")).standing), False)
        self.assertIs(is_all_quiet(done(windows, set_at(0, "x", "no"), ("hear", 1, 0)).standing), True)

    def test_a_timer_is_not_quiet(self):
        handlers = (("h", "m", "home", "x", (X,), (), "later"),)
        windows = Windows(two_inputs(handlers=handlers), Rule(), ("x",), "stamp", 2)
        self.assertIs(is_all_quiet(done(windows, ("at", 1, ("press", "h"))).standing), False)


class WordsTest(unittest.TestCase):
    def test_words_of(self):
        windows = plain(number=3, shared=("x",))
        last = done(windows, set_at(1, "x", "no"), set_at(2, "y", "yes"))
        self.assertEqual(words_of(windows, last.standing, "x"), ("yes", "no", "yes"))
        # Also an input that is not shared.
        self.assertEqual(words_of(windows, last.standing, "y"), ("no", "no", "yes"))

    def test_no_part(self):
        windows = Windows(full_app(), Rule(), ("x",), "stamp", 2)
        standing = begin_windows(windows).standing
        for slot in [*STRANGE, "a", "d", "r", "g", "h", "home"]:
            with self.assertRaises(NoPart) as caught:
                words_of(windows, standing, slot)
            self.assertEqual(repr(caught.exception.value), repr(slot))


class OwnDeedsTest(unittest.TestCase):
    def test_own_deeds(self):
        deeds = [set_at(0, "x", "no"), set_at(0, "x", "yes"), ("at", 1, ("land", 4)), ("hear", 1, 1), ("hear", 1, 0),
                 ("hear", 1, 0), ("at", 0, ("go", "home"))]
        for kind in (tuple, list):
            windows = plain("arrival")
            self.assertEqual(own_deeds(windows, kind(deeds), 0), [("set", "x", "no"), ("set", "x", "yes"), ("go", "home")])
            heard = [("set", "x", "yes"), ("set", "x", "no")]
            self.assertEqual(own_deeds(windows, kind(deeds), 1), [("land", 4)] + heard)
            windows = plain("count")
            self.assertEqual(own_deeds(windows, kind(deeds), 1), [("land", 4), ("set", "x", "yes")])
            self.assertEqual(own_deeds(windows, kind(()), 1), [])
        told = own_deeds(windows, deeds, 1)
        told.clear()
        self.assertEqual(own_deeds(windows, deeds, 1), [("land", 4), ("set", "x", "yes")])

    def test_wrong_items_come_first(self):
        windows = plain()
        right = (set_at(0, "x", "no"), ("hear", 1, 0), ("hear", 1, 5))
        for value in [*STRANGE, ("land", 0), ("hear", 2, 0), ["hear", 0, 0], ("hear", True, 0)]:
            for at in (0, 1, 3):
                for kind in (tuple, list):
                    for window in (0, 7, None):
                        deeds = kind(right[:at] + (value,) + right[at:])
                        kept = copied(deeds)
                        with self.assertRaises(BadDeed) as caught:
                            own_deeds(windows, deeds, window)
                        self.assertEqual(repr(caught.exception.deed), repr(value))
                        self.assertEqual(repr(deeds), repr(kept))
        with self.assertRaises(BadDeed) as caught:
            own_deeds(windows, [right[0], "first", "second"], 0)
        self.assertEqual(caught.exception.deed, "first")

    def test_no_window(self):
        for number in (2, 3):
            wrong = [value for value in STRANGE if not (type(value) is int and 0 <= value < 2)]
            for window in [*wrong, number, -1, True, False, "0", (0,), [1]]:
                for deeds in ((), [set_at(0, "x", "no")]):
                    with self.assertRaises(NoPart) as caught:
                        own_deeds(plain(number=number), deeds, window)
                    self.assertEqual(repr(caught.exception.value), repr(window))

    def test_the_session_of_a_window(self):
        for source in sources(100):
            windows = random_windows(source)
            last = begin_windows(windows)
            deeds = []
            for _ in range(25):
                deeds.append(random_window_deed(source, windows, last.standing))
                last = step_windows(windows, last.standing, deeds[-1])
            for window in range(windows.number):
                told = own_deeds(windows, deeds, window)
                self.assertIs(type(told), list)
                steps = play(windows.app, windows.rule, told)
                self.assertEqual(steps[-1].standing, last.standing[0][window])


class SettlingTest(unittest.TestCase):
    def test_when_all_is_quiet(self):
        self.assertEqual(settling(plain(), begin_windows(plain()).standing), [])

    def test_settling(self):
        lengths = 0
        for source in sources(200):
            windows = random_windows(source)
            standing = begin_windows(windows).standing
            for _ in range(20):
                standing = step_windows(windows, standing, random_window_deed(source, windows, standing)).standing
            kept = copied(standing)
            told = settling(windows, standing)
            self.assertEqual(standing, kept)
            self.assertIs(type(told), list)
            for deed in told:
                self.assertTrue(is_window_deed(windows, deed))
                self.assertTrue(deed[0] == "hear" or deed[2][0] in ("land", "timer"))
                standing = step_windows(windows, standing, deed).standing
            self.assertTrue(is_all_quiet(standing))
            lengths += len(told)
        self.assertGreater(lengths, 400)

    def test_a_timer_that_sends(self):
        handlers = (("h", "m", "home", "x", (NOT_X,), (), "later"),)
        app = two_inputs(handlers=handlers, late=(("d", "m", (X,)),))
        for number in (2, 3):
            for rule in (Rule(), Rule(again="match", newest=True)):
                windows = Windows(app, rule, ("x",), "arrival", number)
                deeds = [("at", window, ("press", "h")) for window in (0, 1, 1)]
                standing = done(windows, *deeds).standing
                for deed in settling(windows, standing):
                    standing = step_windows(windows, standing, deed).standing
                self.assertTrue(is_all_quiet(standing))


class WindowFaultsTest(unittest.TestCase):
    def test_faults_of_a_session(self):
        windows = Windows(interface_app(), Rule(words=False), ("x",), "stamp", 2)
        deeds = [("at", 1, deed) for deed in (("set", "x", "no"), ("land", 1), ("land", 0))]
        last = done(windows, *deeds)
        self.assertEqual(window_faults(windows, last), [(1, "unsettled", "d")])
        # A window without a Step adds none, though its session is unsettled.
        later = step_windows(windows, last.standing, ("at", 0, ("land", 0)))
        self.assertEqual(window_faults(windows, later), [])
        self.assertTrue(is_quiet(later.standing[0][1]))

    def test_apart(self):
        deeds = [set_at(0, "x", "no"), set_at(0, "x", "yes"), ("hear", 1, 1), ("hear", 1, 0)]
        windows = plain("arrival")
        told = [window_faults(windows, done(windows, *deeds[:number])) for number in range(5)]
        self.assertEqual(told, [[], [], [], [], [("apart", "x")]])
        # Also behind a deed that does nothing, and not if the input is not shared.
        self.assertEqual(window_faults(windows, done(windows, *deeds, ("hear", 0, 3))), [("apart", "x")])
        own = plain("arrival", shared=("y",))
        self.assertEqual(window_faults(own, done(own, set_at(0, "x", "no"))), [])

    def test_the_order_of_apart(self):
        for shared in (("x", "y"), ("y", "x")):
            windows = plain("arrival", shared=shared, number=3)
            deeds = [set_at(0, slot, word) for slot in ("x", "y") for word in ("no", "yes", "no")]
            last = done(windows, *deeds)
            # The other windows hear the last message first.
            for window in (1, 2):
                while [message for message in last.standing[2] if message[0] == window]:
                    many = len([message for message in last.standing[2] if message[0] == window])
                    last = step_windows(windows, last.standing, ("hear", window, many - 1))
            self.assertEqual(words_of(windows, last.standing, "y"), ("no", "yes", "yes"))
            self.assertEqual(window_faults(windows, last), [("apart", "y")])
        windows = plain("arrival", shared=("y", "x"))
        deeds = [set_at(0, slot, word) for slot in ("x", "y") for word in ("no", "yes") + (("no",) if slot == "y" else ())]
        last = done(windows, *deeds, *[("hear", 1, number) for number in (4, 3, 2, 1, 0)])
        self.assertEqual(window_faults(windows, last), [("apart", "y"), ("apart", "x")])

    def test_faults_of_a_session_come_ahead_of_apart(self):
        app = App(YN, (("m", 1),), (("x", "yes"),), HOME, late=(("d", "m", (X,)),), form=("d",))
        windows = Windows(app, Rule(words=False, sending="go"), ("x",), "arrival", 2)
        deeds = [set_at(0, "x", "no"), set_at(0, "x", "yes"), ("hear", 1, 1), ("hear", 1, 0)]
        deeds += [("at", 0, ("land", 0))] * 3 + [("at", 1, ("land", 1)), ("at", 1, ("land", 0)), ("at", 1, ("send",))]
        last = done(windows, *deeds)
        self.assertEqual(window_faults(windows, last), [(1, "unsettled", "d"), (1, "sent", "d"), ("apart", "x")])

    def test_the_beginning(self):
        for source in sources(50):
            windows = random_windows(source)
            self.assertEqual(window_faults(windows, begin_windows(windows)), [])

    def test_a_new_list_each_time(self):
        windows = plain("arrival")
        last = done(windows, set_at(0, "x", "no"), set_at(0, "x", "yes"), ("hear", 1, 1), ("hear", 1, 0))
        window_faults(windows, last).clear()
        self.assertEqual(window_faults(windows, last), [("apart", "x")])


class FactsTest(unittest.TestCase):
    def test_seen_is_the_count_under_count_and_stamp(self):
        for source in sources(100):
            windows = random_windows(source, order=source.choice(("count", "stamp")))
            last = begin_windows(windows)
            for _ in range(25):
                last = step_windows(windows, last.standing, random_window_deed(source, windows, last.standing))
                for seen, stamp in [mark for marks in last.standing[1] for mark in marks]:
                    self.assertEqual(seen, stamp[0])

    def test_the_order_of_hearing_does_not_matter_under_stamp(self):
        many = 0
        for source in sources(100):
            windows = random_windows(source, order="stamp")
            standing = begin_windows(windows).standing
            for _ in range(25):
                deed = random_window_deed(source, windows, standing)
                if deed[0] == "at" or source.random() < 0.3:
                    standing = step_windows(windows, standing, deed).standing
            ends = []
            for _ in range(4):
                now = standing
                while now[2]:
                    hears = [deed for deed in all_window_deeds(windows, now) if deed[0] == "hear"]
                    now = step_windows(windows, now, source.choice(hears)).standing
                ends.append((now[1], [words_of(windows, now, slot) for slot in windows.shared]))
            self.assertEqual(ends, ends[:1] * 4)
            many += len(standing[2]) > 3
        self.assertGreater(many, 20)

    def test_one_window_alone_that_is_heard_in_order(self):
        for source in sources(100):
            windows = random_windows(source)
            standing = begin_windows(windows).standing
            for _ in range(30):
                deed = random_window_deed(source, windows, standing)
                if deed[0] == "hear":
                    deed = ("hear", deed[1], 0)
                elif deed[1] != 0 and deed[2][0] in ("set", "press", "timer"):
                    deed = ("at", 0, deed[2])
                last = step_windows(windows, standing, deed)
                standing = last.standing
                self.assertNotIn("apart", [fault[0] for fault in window_faults(windows, last)])


if __name__ == "__main__":
    unittest.main()
