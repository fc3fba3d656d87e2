"""[13], [14] and [15]: what each deed does, and which deeds do nothing."""

import unittest

from onesession.apps import App
from onesession.rules import Rule
from onesession.running import Step, begin, step
from tests.samples import NOT_X, X, Y, YN, YNM, after, copied, full_app, interface_app, outcomes, random_app, random_deed
from tests.samples import random_rule, sources

R = ("slot", "r")
NONE = (None, None, None)
HOME = (("home", (), None),)
X_YES = (0, (("x", "yes"),))
X_NO = (0, (("x", "no"),))
LATER_X_YES = (1, (("x", "yes"),))
R_NO = (0, (("r", "no"),))
R_YES = (0, (("r", "yes"),))
NOT = ("no", "yes")


def one_late(**changes):
    """An app with one late slot, whose second edition has the other word."""
    passed = {"pages": (("home", (), None), ("view", (), None)), "late": (("d", "m", (X, NOT_X)),), **changes}
    return App(YN, (("m", 2),), (("x", "yes"), ("y", "no")), passed.pop("pages"), **passed)


def row_app():
    """An app with rows alone, whose late word reads the word of the row, and turns it in the second edition."""
    rows = ("r", "no", "g", "m", (R, ("map", NOT, R)))
    return App(YN, (("m", 2),), (("x", "yes"),), HOME, rows=rows)


def three_rows(rule):
    """A standing with the rows 3, 1 and 2, the second of which has another word, and all words are there."""
    deeds = [("add", 3), ("add", 1), ("add", 2), ("rowset", 1, "yes")]
    standing = after(row_app(), rule, *deeds).standing
    while standing[6]:
        standing = step(row_app(), rule, standing, ("land", 0)).standing
    return standing


class StepCase(unittest.TestCase):
    def assert_step(self, last, events, **items):
        """The events of a Step, and some items of its standing."""
        names = ("inputs", "editions", "rows", "page", "way", "records", "acts", "held", "timers", "waiting")
        self.assertIsInstance(last, Step)
        self.assertIs(type(last.events), tuple)
        self.assertEqual(last.events, events)
        for name, value in items.items():
            self.assertEqual(last.standing[names.index(name)], value, name)

    def assert_nothing(self, app, rule, standing, *deeds):
        """Each of the deeds does nothing in a standing."""
        kept = copied(standing)
        for deed in deeds:
            last = step(app, rule, standing, deed)
            self.assertIs(type(last), Step)
            self.assertEqual(last.events, (), deed)
            self.assertEqual(last.standing, kept, deed)
            self.assertIs(last.standing, standing, deed)


class LandTest(StepCase):
    def test_taken(self):
        app = one_late()
        last = after(app, Rule(), ("land", 0))
        self.assert_step(last, (("taken", "d", 0),), records=(("yes", X_YES, X_YES),), acts=())

    def test_the_word_is_that_of_its_own_call(self):
        app = one_late()
        last = after(app, Rule(code=False), ("edit", "m", 1), ("land", 0))
        self.assert_step(last, (("taken", "d", 0),), records=(("yes", LATER_X_YES, X_YES),))
        last = after(app, Rule(code=False), ("edit", "m", 1), ("land", 0), ("land", 0))
        self.assert_step(last, (("taken", "d", 0),), records=(("no", LATER_X_YES, LATER_X_YES),))

    def test_words_are_compared_under_words(self):
        app = one_late()
        deeds = (("set", "x", "no"), ("land", 0))
        self.assert_step(after(app, Rule(words=True), *deeds), (("dropped", "d", 0),), records=((None, X_NO, None),))
        self.assert_step(after(app, Rule(words=False), *deeds), (("taken", "d", 0),), records=(("yes", X_NO, X_YES),))

    def test_code_is_compared_under_code(self):
        app = one_late()
        deeds = (("edit", "m", 1), ("land", 0))
        self.assertEqual(after(app, Rule(code=True), *deeds).events, (("dropped", "d", 0),))
        self.assertEqual(after(app, Rule(code=False), *deeds).events, (("taken", "d", 0),))

    def test_editions_that_read_other_slots_are_told_apart_by_words(self):
        app = one_late(late=(("d", "m", (X, Y)),))
        deeds = (("edit", "m", 1), ("land", 0))
        self.assertEqual(after(app, Rule(words=True, code=False), *deeds).events, (("dropped", "d", 0),))
        self.assertEqual(after(app, Rule(words=False, code=True), *deeds).events, (("dropped", "d", 0),))
        self.assertEqual(after(app, Rule(words=False, code=False), *deeds).events, (("taken", "d", 0),))

    def test_the_newest_is_asked_for_under_newest(self):
        app = one_late()
        deeds = (("set", "x", "no"), ("land", 0))
        self.assertEqual(after(app, Rule(words=False, newest=True), *deeds).events, (("dropped", "d", 0),))
        self.assertEqual(after(app, Rule(words=False, newest=False), *deeds).events, (("taken", "d", 0),))
        last = after(app, Rule(words=False, newest=True), ("set", "x", "no"), ("land", 1))
        self.assertEqual(last.events, (("taken", "d", 0),))

    def test_the_newest_is_compared_too(self):
        app = one_late()
        rule = Rule(newest=True, again="match")
        deeds = (("set", "x", "no"), ("set", "x", "yes"), ("land", 1))
        # The newest act has the call of "no", and "yes" is not begun again while its act is there.
        self.assertEqual(after(app, rule, *deeds).events, (("dropped", "d", 0),))

    def test_any_act_may_arrive_first(self):
        app = full_app()
        last = after(app, Rule(), ("land", 1))
        self.assert_step(last, (("taken", "e", 0),), records=((None, X_YES, None), ("no", (0, (("x", "yes"), ("y", "no"))),
                                                                                 (0, (("x", "yes"), ("y", "no"))))))
        self.assertEqual(last.standing[6], (("d", 0, X_YES, True),))

    def test_an_instance_that_is_not_there(self):
        app = row_app()
        for key, number in (("id", 3), ("place", 1)):
            rule = Rule(key=key, words=False, code=False)
            last = after(app, rule, ("add", 3), ("drop", 3), ("land", 0))
            self.assert_step(last, (("dropped", "g", number),), records=(), acts=())

    def test_a_row_under_id_and_place(self):
        app = row_app()
        deeds = (("add", 3), ("add", 1), ("rowset", 1, "yes"), ("swap", 0), ("land", 0))
        last = after(app, Rule(key="id"), *deeds)
        self.assert_step(last, (("taken", "g", 3),), records=((None, R_YES, None), ("no", R_NO, R_NO)))
        # Under "place" the first act was begun for the place that the row 1 has now.
        last = after(app, Rule(key="place"), *deeds)
        self.assertEqual(last.events, (("dropped", "g", 1),))

    def test_the_example_of_the_interface(self):
        app = interface_app()
        rule = Rule(words=False)
        first = step(app, rule, begin(app, rule).standing, ("set", "x", "no")).standing
        second = step(app, rule, first, ("land", 1)).standing
        last = step(app, rule, second, ("land", 0))
        self.assertEqual((last.events, last.standing[5]),
                         ((("taken", "d", 0),), (("yes", X_NO, X_YES),)))

    def test_no_act_of_this_number(self):
        app = full_app()
        rule = Rule()
        standing = begin(app, rule).standing
        self.assert_nothing(app, rule, standing, ("land", 2), ("land", 3), ("land", 10 ** 3999))
        standing = after(app, rule, ("land", 0), ("land", 0)).standing
        self.assert_nothing(app, rule, standing, ("land", 0), ("land", 1))


class SetAndEditTest(StepCase):
    def test_an_input_gets_a_word(self):
        app = one_late()
        self.assert_step(after(app, Rule(), ("set", "y", "yes")), (), inputs=("yes", "yes"))
        last = after(app, Rule(), ("set", "x", "no"))
        self.assert_step(last, (("begun", "d", 0),), inputs=("no", "no"), editions=(0,))
        app = App(YNM, (("m", 1),), (("x", "may"),), HOME)
        self.assert_step(after(app, Rule(), ("set", "x", "no")), (), inputs=("no",))

    def test_a_module_gets_an_edition(self):
        app = full_app()
        last = after(app, Rule(), ("edit", "n", 1))
        self.assert_step(last, (("begun", "d", 0),), editions=(0, 1), inputs=("yes", "no"))
        self.assert_step(after(app, Rule(), ("edit", "n", 1), ("edit", "n", 0)), (("begun", "d", 0),), editions=(0, 0))

    def test_what_is_there_already(self):
        app = full_app()
        rule = Rule()
        standing = begin(app, rule).standing
        self.assert_nothing(app, rule, standing, ("set", "x", "yes"), ("set", "y", "no"), ("edit", "m", 0), ("edit", "n", 0))
        standing = after(app, rule, ("edit", "n", 1), ("set", "x", "no")).standing
        self.assert_nothing(app, rule, standing, ("set", "x", "no"), ("edit", "n", 1))


class RowsTest(StepCase):
    def test_add(self):
        app = full_app()
        last = after(app, Rule(), ("add", 3))
        self.assert_step(last, (("begun", "g", 3),), rows=((3, "no"),))
        self.assertEqual(last.standing[5][2:], ((None, R_NO, None),))
        last = after(app, Rule(key="place"), ("add", 3), ("add", 1))
        self.assert_step(last, (("begun", "g", 2),), rows=((3, "no"), (1, "no")))
        self.assertEqual(len(last.standing[5]), 4)

    def test_a_new_row_begins_with_an_empty_record(self):
        app = row_app()
        for key in ("id", "place"):
            last = after(app, Rule(key=key, ask="needed"), ("add", 2), ("add", 1))
            self.assert_step(last, (), records=(NONE, NONE), rows=((2, "no"), (1, "no")))

    def test_a_row_that_comes_back_has_nothing_of_the_elder_one(self):
        app = row_app()
        rule = Rule(key="id")
        last = after(app, rule, ("add", 2), ("rowset", 2, "yes"), ("land", 1), ("drop", 2), ("add", 2))
        self.assert_step(last, (("begun", "g", 2),), rows=((2, "no"),), records=((None, R_NO, None),))

    def test_rowset(self):
        app = row_app()
        for key, number in (("id", 1), ("place", 2)):
            last = after(app, Rule(key=key), ("add", 3), ("add", 1), ("rowset", 1, "yes"))
            self.assert_step(last, (("begun", "g", number),), rows=((3, "no"), (1, "yes")),
                             records=((None, R_NO, None), (None, R_YES, None)))

    def test_drop_under_id(self):
        app = row_app()
        rule = Rule(key="id")
        standing = three_rows(rule)
        no, yes = ("no", R_NO, R_NO), ("yes", R_YES, R_YES)
        self.assertEqual(standing[2:6:3], (((3, "no"), (1, "yes"), (2, "no")), (no, yes, no)))
        last = step(app, rule, standing, ("drop", 1))
        self.assert_step(last, (), rows=((3, "no"), (2, "no")), records=(no, no))
        last = step(app, rule, standing, ("drop", 3))
        self.assert_step(last, (), rows=((1, "yes"), (2, "no")), records=(yes, no))

    def test_drop_under_place(self):
        app = row_app()
        rule = Rule(key="place")
        standing = three_rows(rule)
        no, yes = ("no", R_NO, R_NO), ("yes", R_YES, R_YES)
        self.assertEqual(standing[5], (no, yes, no))
        last = step(app, rule, standing, ("drop", 3))
        # The last record goes, and the records of the places 1 and 2 are those of other rows now.
        self.assert_step(last, (("begun", "g", 1), ("begun", "g", 2)), rows=((1, "yes"), (2, "no")),
                         records=(("no", R_YES, R_NO), ("yes", R_NO, R_YES)))
        last = step(app, rule, standing, ("drop", 2))
        self.assert_step(last, (), rows=((3, "no"), (1, "yes")), records=(no, yes))

    def test_drop_leaves_the_records_of_late_slots(self):
        app = full_app()
        for key in ("id", "place"):
            last = after(app, Rule(key=key), ("land", 0), ("add", 2), ("drop", 2))
            self.assertEqual(len(last.standing[5]), 2)
            self.assertEqual(last.standing[5][0], ("yes", X_YES, X_YES))
            self.assertEqual([act[0] for act in last.standing[6]], ["e", "g"])

    def test_swap_under_id(self):
        app = row_app()
        rule = Rule(key="id")
        no, yes = ("no", R_NO, R_NO), ("yes", R_YES, R_YES)
        standing = three_rows(rule)
        self.assert_step(step(app, rule, standing, ("swap", 0)), (), rows=((1, "yes"), (3, "no"), (2, "no")),
                         records=(yes, no, no))
        self.assert_step(step(app, rule, standing, ("swap", 1)), (), rows=((3, "no"), (2, "no"), (1, "yes")),
                         records=(no, no, yes))

    def test_swap_under_place(self):
        app = row_app()
        rule = Rule(key="place", again="match")
        no, yes = ("no", R_NO, R_NO), ("yes", R_YES, R_YES)
        standing = three_rows(rule)
        last = step(app, rule, standing, ("swap", 1))
        self.assert_step(last, (("begun", "g", 2), ("begun", "g", 3)), rows=((3, "no"), (2, "no"), (1, "yes")),
                         records=(no, ("yes", R_NO, R_YES), ("no", R_YES, R_NO)))

    def test_swap_beside_late_slots(self):
        app = full_app()
        last = after(app, Rule(key="id"), ("add", 2), ("add", 3), ("land", 2), ("swap", 0))
        self.assertEqual(last.standing[2], ((3, "no"), (2, "no")))
        self.assertEqual([record[0] for record in last.standing[5]], [None, None, None, "no"])
        self.assertEqual([record[1] is None for record in last.standing[5]], [False] * 4)

    def test_deeds_of_rows_that_do_nothing(self):
        app = full_app()
        for key in ("id", "place"):
            rule = Rule(key=key)
            none = begin(app, rule).standing
            self.assert_nothing(app, rule, none, ("drop", 1), ("rowset", 2, "yes"), ("rowset", 2, "no"), ("swap", 0),
                                ("swap", 1))
            one = after(app, rule, ("add", 2)).standing
            self.assert_nothing(app, rule, one, ("add", 2), ("drop", 1), ("drop", 3), ("rowset", 2, "no"),
                                ("rowset", 1, "yes"), ("swap", 0), ("swap", 1))
            two = after(app, rule, ("add", 2), ("add", 1)).standing
            self.assert_nothing(app, rule, two, ("add", 1), ("add", 2), ("drop", 3), ("swap", 1))
            three = after(app, rule, ("add", 2), ("add", 1), ("add", 3)).standing
            self.assert_nothing(app, rule, three, ("add", 1), ("add", 2), ("add", 3))


def go_app():
    """An app with a page behind a guard, and one that needs something."""
    pages = (("home", (), None), ("view", (), ("m", (X, NOT_X))), ("last", ("d",), None))
    return one_late(pages=pages)


class GoTest(StepCase):
    def test_a_page_that_is_shown_at_once(self):
        app = go_app()
        last = after(app, Rule(turn="once"), ("go", "view"))
        self.assert_step(last, (("page", "view"),), page="view", way=None)
        last = after(app, Rule(turn="once"), ("go", "last"))
        self.assert_step(last, (("page", "last"),), page="last", way=None)

    def test_a_page_that_becomes_the_way(self):
        app = go_app()
        last = after(app, Rule(turn="loaded"), ("go", "last"))
        self.assert_step(last, (("way", "last"),), page="home", way="last")

    def test_a_guard_that_does_not_let(self):
        app = go_app()
        for turn in ("once", "loaded"):
            for guard in ("begin", "land"):
                rule = Rule(turn=turn, guard=guard)
                last = after(app, rule, ("set", "x", "no"), ("go", "view"))
                self.assert_step(last, (("refused", "view"),), page="home", way=None)

    def test_a_refused_page_ends_the_way(self):
        app = go_app()
        last = after(app, Rule(turn="loaded"), ("set", "x", "no"), ("go", "last"), ("go", "view"))
        self.assert_step(last, (("refused", "view"),), page="home", way=None)

    def test_another_way_in_the_place_of_the_way(self):
        app = go_app()
        last = after(app, Rule(turn="loaded"), ("go", "last"), ("go", "view"))
        self.assert_step(last, (("way", "view"), ("page", "view")), page="view", way=None)

    def test_the_way_again(self):
        app = go_app()
        last = after(app, Rule(turn="loaded"), ("go", "last"), ("go", "last"))
        self.assert_step(last, (("way", "last"),), page="home", way="last")

    def test_the_way_again_is_asked_again(self):
        pages = (("home", (), None), ("view", ("d",), ("m", (X, X))))
        app = one_late(pages=pages)
        last = after(app, Rule(turn="loaded"), ("go", "view"), ("set", "x", "no"), ("go", "view"))
        self.assert_step(last, (("refused", "view"),), page="home", way=None)

    def test_the_page_that_is_shown_ends_the_way(self):
        app = go_app()
        last = after(app, Rule(turn="loaded"), ("go", "last"), ("go", "home"))
        self.assert_step(last, (), page="home", way=None)

    def test_the_guard_of_the_page_that_is_shown_is_not_asked(self):
        pages = (("home", (), ("m", (("word", "no"),) * 2)), ("view", ("d",), None))
        app = one_late(pages=pages)
        last = after(app, Rule(turn="loaded"), ("go", "view"), ("go", "home"))
        self.assert_step(last, (), page="home", way=None)
        last = after(app, Rule(turn="once"), ("go", "view"), ("go", "home"))
        self.assert_step(last, (("refused", "home"),), page="view")

    def test_the_needs_of_a_page_that_is_shown_are_asked_for(self):
        pages = (("home", (), None), ("last", ("d",), None))
        app = one_late(pages=pages)
        told = outcomes(app, Rule(ask="needed"), ("go", "last"))
        self.assertEqual(told, [(("page", "last"), ("begun", "d", 0))])
        told = outcomes(app, Rule(ask="needed", turn="loaded"), ("go", "last"))
        self.assertEqual(told, [(("way", "last"), ("begun", "d", 0))])

    def test_the_page_that_is_shown_without_a_way(self):
        app = go_app()
        for turn in ("once", "loaded"):
            rule = Rule(turn=turn)
            self.assert_nothing(app, rule, begin(app, rule).standing, ("go", "home"))
            self.assert_nothing(app, rule, after(app, rule, ("go", "view")).standing, ("go", "view"))


def press_app(when="now", listed=()):
    """An app with a handler that sets y to x, or to the other word of x in its second edition."""
    handlers = (("h", "m", "home", "y", (X, NOT_X), listed, when), ("k", "m", "view", "y", (X, X), (), "now"))
    pages = (("home", (), None), ("view", (), None))
    return App(YN, (("m", 2),), (("x", "yes"), ("y", "no")), pages, handlers=handlers)


class PressTest(StepCase):
    def test_a_handler_that_sets_now(self):
        app = press_app()
        last = after(app, Rule(holds="now"), ("press", "h"))
        self.assert_step(last, (("pressed", "h", "yes", "yes"),), inputs=("yes", "yes"), timers=())
        last = after(app, Rule(holds="now"), ("set", "x", "no"), ("edit", "m", 1), ("press", "h"))
        self.assert_step(last, (("pressed", "h", "yes", "yes"),), inputs=("no", "yes"))

    def test_a_word_that_is_there_already(self):
        app = press_app()
        rule = Rule()
        before = after(app, rule, ("set", "x", "no"))
        last = step(app, rule, before.standing, ("press", "h"))
        self.assert_step(last, (("pressed", "h", "no", "no"),))
        self.assertEqual(last.standing, before.standing)

    def test_an_elder_call_that_is_held(self):
        app = press_app()
        last = after(app, Rule(holds="listed"), ("set", "x", "no"), ("press", "h"))
        self.assert_step(last, (("pressed", "h", "yes", "no"),), inputs=("no", "yes"))
        last = after(app, Rule(holds="listed", swap="keep"), ("edit", "m", 1), ("press", "h"))
        self.assert_step(last, (("pressed", "h", "yes", "no"),), inputs=("yes", "yes"))
        last = after(app, Rule(holds="listed", swap="renew"), ("edit", "m", 1), ("press", "h"))
        self.assert_step(last, (("pressed", "h", "no", "no"),), inputs=("yes", "no"))

    def test_a_held_call_is_that_of_now_if_its_words_are_listed(self):
        app = press_app(listed=("x",))
        last = after(app, Rule(holds="listed"), ("set", "x", "no"), ("press", "h"))
        self.assert_step(last, (("pressed", "h", "no", "no"),), inputs=("no", "no"))

    def test_the_outcome_of_now_is_asked_ahead_of_the_setting(self):
        handlers = (("h", "m", "home", "x", (NOT_X,), (), "now"),)
        app = App(YN, (("m", 1),), (("x", "yes"),), HOME, handlers=handlers)
        last = after(app, Rule(holds="now"), ("press", "h"))
        self.assert_step(last, (("pressed", "h", "no", "no"),), inputs=("no",))
        told = outcomes(app, Rule(holds="listed"), ("press", "h"), ("press", "h"))
        self.assertEqual(told, [(("pressed", "h", "no", "no"),), (("pressed", "h", "no", "yes"),)])

    def test_a_press_renews_what_lists_the_target(self):
        handlers = (("h", "m", "home", "x", (NOT_X,), ("x",), "now"),)
        app = App(YN, (("m", 1),), (("x", "yes"),), HOME, handlers=handlers, late=(("d", "m", (X,)),))
        told = outcomes(app, Rule(holds="listed"), ("press", "h"))
        self.assertEqual(told, [(("pressed", "h", "no", "no"), ("begun", "d", 0), ("renewed", "h"))])

    def test_a_handler_that_sets_later(self):
        app = press_app(when="later")
        last = after(app, Rule(holds="now"), ("press", "h"))
        self.assert_step(last, (("put", "h"),), inputs=("yes", "no"), timers=(("h", 0, (("x", "yes"),)),))
        last = after(app, Rule(holds="now"), ("press", "h"), ("set", "x", "no"), ("edit", "m", 1), ("press", "h"))
        self.assert_step(last, (("put", "h"),), timers=(("h", 0, (("x", "yes"),)), ("h", 1, (("x", "no"),))))

    def test_a_timer_of_an_elder_call_that_is_held(self):
        app = press_app(when="later")
        last = after(app, Rule(holds="listed"), ("set", "x", "no"), ("press", "h"))
        self.assert_step(last, (("put", "h"),), timers=(("h", 0, (("x", "yes"),)),))

    def test_a_handler_of_another_page(self):
        app = press_app()
        for rule in (Rule(holds="now"), Rule(holds="listed")):
            self.assert_nothing(app, rule, begin(app, rule).standing, ("press", "k"))
            self.assert_nothing(app, rule, after(app, rule, ("go", "view")).standing, ("press", "h"))
            last = after(app, rule, ("go", "view"), ("press", "k"))
            self.assertEqual(last.events, (("pressed", "k", "yes", "yes"),))

    def test_a_handler_of_the_way_does_nothing(self):
        app = full_app()
        rule = Rule(turn="loaded")
        standing = after(app, rule, ("go", "view")).standing
        self.assertEqual(standing[4], "view")
        self.assert_nothing(app, rule, standing, ("press", "k"))


class TimerTest(StepCase):
    def test_held_and_now(self):
        app = press_app(when="later")
        deeds = (("press", "h"), ("set", "x", "no"), ("timer", 0))
        last = after(app, Rule(timers="held"), *deeds)
        self.assert_step(last, (("fired", "h", "yes", "no"),), inputs=("no", "yes"), timers=())
        last = after(app, Rule(timers="now"), *deeds)
        self.assert_step(last, (("fired", "h", "no", "no"),), inputs=("no", "no"), timers=())

    def test_another_edition(self):
        app = press_app(when="later")
        deeds = (("press", "h"), ("edit", "m", 1), ("timer", 0))
        self.assertEqual(after(app, Rule(timers="held"), *deeds).events, (("fired", "h", "yes", "no"),))
        self.assertEqual(after(app, Rule(timers="now"), *deeds).events, (("fired", "h", "no", "no"),))

    def test_now_is_the_call_of_now_and_not_what_is_held(self):
        app = press_app(when="later")
        rule = Rule(timers="now", holds="listed")
        last = after(app, rule, ("press", "h"), ("set", "x", "no"), ("timer", 0))
        self.assert_step(last, (("fired", "h", "no", "no"),), held=(("h", 0, (), (("x", "yes"),)),))

    def test_a_timer_goes_on_another_page(self):
        app = press_app(when="later")
        for timers in ("held", "now"):
            last = after(app, Rule(timers=timers), ("press", "h"), ("go", "view"), ("timer", 0))
            self.assert_step(last, (("fired", "h", "yes", "yes"),), inputs=("yes", "yes"), page="view")

    def test_any_timer_may_go_first(self):
        app = press_app(when="later")
        deeds = (("press", "h"), ("set", "x", "no"), ("press", "h"), ("timer", 1))
        last = after(app, Rule(timers="held"), *deeds)
        self.assert_step(last, (("fired", "h", "no", "no"),), timers=(("h", 0, (("x", "yes"),)),), inputs=("no", "no"))

    def test_a_word_that_is_there_already(self):
        app = press_app(when="later")
        last = after(app, Rule(), ("set", "x", "no"), ("press", "h"), ("timer", 0))
        self.assert_step(last, (("fired", "h", "no", "no"),), inputs=("no", "no"), timers=())

    def test_no_timer_of_this_number(self):
        app = press_app(when="later")
        rule = Rule()
        self.assert_nothing(app, rule, begin(app, rule).standing, ("timer", 0), ("timer", 1), ("timer", 10 ** 3999))
        standing = after(app, rule, ("press", "h")).standing
        self.assert_nothing(app, rule, standing, ("timer", 1), ("timer", 7))


def form_app(form=("d",)):
    """An app with a form, rows, and handlers that set x and y."""
    handlers = (("h", "m", "home", "y", (X, X), (), "now"), ("k", "m", "home", "y", (X, X), (), "later"))
    rows = ("r", "no", "g", "m", (R, R))
    return one_late(form=form, late=(("d", "m", (X, X)), ("e", "m", (Y, Y))), rows=rows, handlers=handlers,
                    made=(("a", "m", (Y, Y)),))


class SendTest(StepCase):
    def test_sending_without_acts(self):
        app = form_app()
        for sending in ("bar", "wait"):
            rule = Rule(sending=sending)
            self.assert_step(after(app, rule, ("land", 0), ("send",)), (("sent",),), waiting=False)
            deeds = (("set", "x", "no"), ("land", 2), ("land", 0), ("send",))
            self.assert_step(after(app, rule, *deeds), (("unsent",),), waiting=False)

    def test_sending_beside_an_act_of_a_check(self):
        app = form_app()
        self.assert_step(after(app, Rule(sending="bar"), ("send",)), (("unsent",),), waiting=False)
        self.assert_step(after(app, Rule(sending="wait"), ("send",)), (("waiting",),), waiting=True)

    def test_go_sends_always(self):
        app = form_app()
        rule = Rule(sending="go")
        self.assert_step(after(app, rule, ("send",)), (("sent",),), waiting=False)
        deeds = (("set", "x", "no"), ("land", 2), ("land", 0), ("send",))
        self.assert_step(after(app, rule, *deeds), (("sent",),), waiting=False)

    def test_a_made_slot_as_a_check(self):
        app = form_app(form=("a",))
        for sending in ("bar", "wait"):
            told = outcomes(app, Rule(sending=sending), ("send",), ("set", "y", "yes"), ("send",))
            self.assertEqual((told[0], told[2]), ((("unsent",),), (("sent",),)))
        self.assertEqual(after(app, Rule(sending="go"), ("send",)).events, (("sent",),))

    def test_an_old_word_of_a_check_counts(self):
        app = form_app()
        rule = Rule(sending="bar", words=False)
        last = after(app, rule, ("set", "x", "no"), ("land", 2), ("land", 0), ("send",))
        self.assertEqual(last.events, (("sent",),))

    def test_all_checks_have_to_be_right(self):
        app = form_app(form=("e", "d"))
        rule = Rule(sending="bar")
        told = outcomes(app, rule, ("land", 0), ("send",), ("land", 0), ("send",), ("set", "y", "yes"), ("land", 0), ("send",))
        self.assertEqual((told[1], told[3], told[6]), ((("unsent",),), (("unsent",),), (("sent",),)))

    def test_a_form_that_waits_is_not_sent_again(self):
        app = form_app()
        rule = Rule(sending="wait")
        self.assert_nothing(app, rule, after(app, rule, ("send",)).standing, ("send",))

    def test_what_ends_the_waiting(self):
        app = form_app(form=("d",))
        rule = Rule(sending="wait")
        first = [("add", 1), ("press", "k"), ("send",)]
        self.assertIs(after(app, rule, *first).standing[9], True)
        for deed in (("set", "x", "no"), ("set", "y", "yes"), ("edit", "m", 1), ("rowset", 1, "yes"), ("press", "h"),
                     ("timer", 0), ("reopen", (0,)), ("reopen", (1,))):
            last = after(app, rule, *first, deed)
            self.assertIs(last.standing[9], False, deed)
            self.assertFalse({("sent",), ("unsent",), ("waiting",)} & set(last.events), deed)

    def test_what_does_not_end_the_waiting(self):
        app = form_app(form=("d",))
        rule = Rule(sending="wait")
        first = [("add", 1), ("add", 2), ("set", "y", "yes"), ("press", "k"), ("send",)]
        for deed in (("add", 3), ("drop", 1), ("drop", 2), ("swap", 0), ("go", "view"), ("press", "h"), ("press", "k"),
                     ("timer", 0), ("land", 1), ("set", "x", "yes"), ("edit", "m", 0), ("rowset", 1, "no"), ("send",)):
            last = after(app, rule, *first, deed)
            self.assertIs(last.standing[9], True, deed)
        self.assertIs(after(app, rule.turned("turn", "loaded"), *first, ("go", "view")).standing[9], True)

    def test_behind_an_ended_waiting_nothing_is_sent(self):
        app = form_app(form=("d",))
        rule = Rule(sending="wait")
        told = outcomes(app, rule, ("send",), ("set", "y", "yes"), ("land", 0))
        self.assertEqual(told, [(("waiting",),), (("begun", "e", 0),), (("taken", "d", 0),)])


class ReopenTest(StepCase):
    DEEDS = (("land", 0), ("add", 2), ("rowset", 2, "yes"), ("land", 1), ("set", "x", "no"))

    def standing(self, **parts):
        """A standing with the word "yes" for d from x "yes", none for e, one for the row, and acts."""
        return after(self.app(), Rule(**parts), *self.DEEDS).standing

    def app(self):
        late = (("d", "m", (X, NOT_X)), ("e", "m", (X, X)))
        pages = (("home", (), None), ("view", (), None))
        return App(YN, (("m", 2),), (("x", "yes"), ("y", "no")), pages, late=late, rows=("r", "no", "g", "m", (R, R)))

    def reopened(self, editions=(0,), **parts):
        return step(self.app(), Rule(**parts), self.standing(**parts), ("reopen", editions))

    def test_the_standing_ahead_of_it(self):
        expected = (("yes", X_NO, X_YES), (None, X_NO, None), (None, R_YES, None))
        self.assertEqual(self.standing()[5], expected)
        self.assertEqual(len(self.standing()[6]), 4)

    def test_nothing_is_kept(self):
        for keep in ("keep", "clear"):
            for again in ("change", "match"):
                last = self.reopened(saves="nothing", keep=keep, again=again)
                begun = (("begun", "d", 0), ("begun", "e", 0), ("begun", "g", 2))
                self.assert_step(last, (("reopened",),) + begun, rows=((2, "yes"),), inputs=("no", "no"),
                                 records=((None, X_NO, None), (None, X_NO, None), (None, R_YES, None)))
                self.assertEqual([act[0] for act in last.standing[6]], ["d", "e", "g"])

    def test_records_are_kept(self):
        last = self.reopened(saves="records", keep="keep")
        self.assert_step(last, (("reopened",),), acts=(),
                         records=(("yes", X_NO, X_YES), (None, X_NO, None), (None, R_YES, None)))
        last = self.reopened(saves="records", keep="keep", again="match")
        self.assert_step(last, (("reopened",), ("begun", "d", 0), ("begun", "e", 0), ("begun", "g", 2)),
                         records=(("yes", X_NO, X_YES), (None, X_NO, None), (None, R_YES, None)))
        last = self.reopened(saves="records", keep="clear")
        self.assert_step(last, (("reopened",),),
                         records=((None, X_NO, None), (None, X_NO, None), (None, R_YES, None)))

    def test_records_on_other_code(self):
        last = self.reopened(editions=(1,), saves="records", keep="keep")
        now = (1, (("x", "no"),))
        self.assert_step(last, (("reopened",), ("begun", "d", 0), ("begun", "e", 0), ("begun", "g", 2)), editions=(1,),
                         records=(("yes", now, X_YES), (None, now, None), (None, (1, (("r", "yes"),)), None)))

    def test_values_are_kept_under_keep(self):
        for again in ("change", "match"):
            last = self.reopened(saves="values", keep="keep", again=again)
            # The old word counts as made from the call of now, so it is not asked for again.
            self.assert_step(last, (("reopened",), ("begun", "e", 0), ("begun", "g", 2)),
                             records=(("yes", X_NO, X_NO), (None, X_NO, None), (None, R_YES, None)))

    def test_values_are_kept_with_the_call_of_the_new_editions(self):
        last = self.reopened(editions=(1,), saves="values", keep="keep")
        now = (1, (("x", "no"),))
        self.assert_step(last, (("reopened",), ("begun", "e", 0), ("begun", "g", 2)), editions=(1,),
                         records=(("yes", now, now), (None, now, None), (None, (1, (("r", "yes"),)), None)))

    def test_values_under_clear(self):
        last = self.reopened(saves="values", keep="clear")
        # The word for d is cleared already, since it was not made from the call of now.
        self.assert_step(last, (("reopened",), ("begun", "d", 0), ("begun", "e", 0), ("begun", "g", 2)),
                         records=((None, X_NO, None), (None, X_NO, None), (None, R_YES, None)))

    def test_values_under_clear_that_fit(self):
        app = interface_app()
        deeds = (("land", 0), ("reopen", (0,)))
        last = after(app, Rule(saves="values", keep="clear"), *deeds)
        self.assert_step(last, (("reopened",), ("begun", "d", 0)), records=(("yes", X_YES, X_YES),))
        last = after(app, Rule(saves="values", keep="clear", again="match"), *deeds)
        self.assert_step(last, (("reopened",),), records=(("yes", None, X_YES),))
        last = after(app, Rule(saves="values", keep="keep"), *deeds)
        self.assert_step(last, (("reopened",),), records=(("yes", X_YES, X_YES),))
        last = after(app, Rule(saves="values", keep="clear"), ("land", 0), ("reopen", (1,)))
        self.assert_step(last, (("reopened",), ("begun", "d", 0)), records=((None, LATER_X_YES, None),))

    def test_values_that_are_not_wanted(self):
        app = interface_app()
        rule = Rule(saves="values", ask="needed", keep="clear", again="match")
        last = after(app, rule, ("go", "view"), ("land", 0), ("reopen", (0,)))
        self.assert_step(last, (("reopened",),), records=(("yes", None, X_YES),), page="home")
        last = after(app, rule.turned("keep", "keep"), ("go", "view"), ("reopen", (0,)))
        self.assert_step(last, (("reopened",),), records=(NONE,))

    def test_the_row_has_its_own_call(self):
        app = row_app()
        for key in ("id", "place"):
            rule = Rule(key=key, saves="values")
            last = step(app, rule, three_rows(rule), ("reopen", (1,)))
            no, yes = (1, (("r", "no"),)), (1, (("r", "yes"),))
            self.assert_step(last, (("reopened",),), records=(("no", no, no), ("yes", yes, yes), ("no", no, no)))

    def test_acts_timers_way_entries_and_waiting_are_gone(self):
        app = full_app()
        for saves in ("nothing", "records", "values"):
            rule = Rule(holds="listed", turn="loaded", sending="wait", saves=saves)
            deeds = (("land", 0), ("go", "view"), ("press", "k"), ("set", "x", "no"), ("go", "last"), ("send",))
            standing = after(app, rule, *deeds).standing
            self.assertEqual((standing[3], len(standing[8]), standing[9]), ("view", 1, True))
            last = step(app, rule, standing, ("reopen", (0, 1)))
            self.assertEqual(last.events[0], ("reopened",))
            self.assertEqual(last.events[-1], ("renewed", "h"))
            self.assertFalse([event for event in last.events if event[0] in ("page", "sent", "unsent", "refused")])
            self.assert_step(last, last.events, page="home", way=None, timers=(), waiting=False, inputs=("no", "no"),
                             editions=(0, 1), held=(("h", 0, ("no", "yes"), (("x", "no"),)),))

    def test_the_guard_of_the_first_page_is_not_asked(self):
        pages = (("home", (), ("m", (("word", "no"),) * 2)), ("view", (), None))
        app = one_late(pages=pages)
        last = after(app, Rule(guard="land"), ("go", "view"), ("reopen", (0,)))
        self.assert_step(last, (("reopened",), ("begun", "d", 0)), page="home")

    def test_it_is_never_nothing(self):
        app = one_late()
        for saves in ("nothing", "records", "values"):
            rule = Rule(saves=saves)
            standing = after(app, rule, ("land", 0)).standing
            last = step(app, rule, standing, ("reopen", (0,)))
            self.assertEqual(last.events[0], ("reopened",))

    def test_the_entries_are_renewed_on_the_first_page_itself(self):
        app = press_app()
        last = after(app, Rule(holds="listed", swap="keep"), ("set", "x", "no"), ("reopen", (1,)))
        self.assert_step(last, (("reopened",), ("renewed", "h")), held=(("h", 1, (), (("x", "no"),)),))


class AnyStepTest(unittest.TestCase):
    def test_what_is_passed_stays_and_the_answer_is_the_same_again(self):
        for source in sources(120):
            app, rule = random_app(source), random_rule(source)
            choice = rule.choice
            standing = begin(app, rule).standing
            self.assertEqual(begin(app, rule).standing, standing)
            for _ in range(15):
                deed = random_deed(source, app, standing)
                before = copied((standing, deed))
                last = step(app, rule, standing, deed)
                again = step(app, rule, standing, deed)
                self.assertEqual((standing, deed), before)
                self.assertEqual((last.standing, last.events), (again.standing, again.events))
                self.assertEqual(rule.choice, choice)
                standing = last.standing

    def test_standings_and_events_are_made_of_tuples(self):
        def assert_plain(value):
            if isinstance(value, tuple):
                for item in value:
                    assert_plain(item)
            else:
                self.assertIn(type(value), (str, int, bool, type(None)))

        for source in sources(60):
            app, rule = random_app(source), random_rule(source)
            last = begin(app, rule)
            for _ in range(15):
                assert_plain((last.standing, last.events))
                self.assertEqual(len(last.standing), 10)
                self.assertIs(type(last.standing[9]), bool)
                self.assertTrue(all(type(act[3]) is bool and type(act[1]) is int for act in last.standing[6]))
                last = step(app, rule, last.standing, random_deed(source, app, last.standing))


if __name__ == "__main__":
    unittest.main()
