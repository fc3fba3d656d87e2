"""[11] Settling and [12] Beginning."""

import unittest

from onesession.apps import App
from onesession.rules import Rule
from onesession.running import Step, begin, step
from tests.samples import NOT_X, X, Y, YN, after, full_app, interface_app, outcomes, random_app, random_rule, sources

R = ("slot", "r")
NONE = (None, None, None)
HOME = (("home", (), None),)
X_YES = (0, (("x", "yes"),))
X_NO = (0, (("x", "no"),))
R_NO = (0, (("r", "no"),))
R_YES = (0, (("r", "yes"),))


def one_late(**changes):
    """An app with one late slot that reads the input x, which begins with "yes"."""
    passed = {"pages": HOME, "late": (("d", "m", (X, X)),), "modules": (("m", 2),), **changes}
    return App(YN, passed.pop("modules"), (("x", "yes"), ("y", "no")), passed.pop("pages"), **passed)


def row_app(**changes):
    """An app with rows alone, whose late word reads the word of the row."""
    passed = {"rows": ("r", "no", "g", "m", (R, R)), **changes}
    return App(YN, (("m", 2),), (("x", "yes"),), passed.pop("pages", HOME), **passed)


class BeginTest(unittest.TestCase):
    def test_the_example_of_the_interface(self):
        first = begin(interface_app(), Rule())
        self.assertIsInstance(first, Step)
        self.assertEqual(first.standing, (
            ("yes",), (0,), (), "home", None, ((None, (0, (("x", "yes"),)), None),),
            (("d", 0, (0, (("x", "yes"),)), True),), (), (), False))
        self.assertEqual(first.events, (("begun", "d", 0),))

    def test_what_there_is_in_the_beginning(self):
        for source in sources(60):
            app, rule = random_app(source), random_rule(source)
            first = begin(app, rule)
            inputs, editions, rows, page, way, records, acts, held, timers, waiting = first.standing
            self.assertEqual(inputs, tuple(word for _, word in app.inputs))
            self.assertEqual(editions, (0,) * len(app.modules))
            self.assertEqual((rows, page, way, timers), ((), app.pages[0][0], None, ()))
            self.assertIs(waiting, False)
            self.assertEqual([record[0::2] for record in records], [(None, None)] * len(app.late))
            begun = tuple(("begun", act[0], 0) for act in acts)
            renewed = tuple(("renewed", entry[0]) for entry in held)
            self.assertEqual(first.events, begun + renewed)
            self.assertTrue(all(act[3] is True for act in acts))

    def test_the_guard_of_the_first_page_is_not_asked(self):
        pages = (("home", (), ("m", (("word", "no"),) * 2)), ("view", (), None))
        app = one_late(pages=pages)
        first = begin(app, Rule(guard="land"))
        self.assertEqual(first.standing[3], "home")
        self.assertEqual(first.events, (("begun", "d", 0),))

    def test_the_events_of_the_beginning(self):
        app = full_app()
        self.assertEqual(begin(app, Rule()).events, (("begun", "d", 0), ("begun", "e", 0)))
        first = begin(app, Rule(holds="listed"))
        self.assertEqual(first.events, (("begun", "d", 0), ("begun", "e", 0), ("renewed", "h")))
        self.assertEqual(first.standing[7], (("h", 0, ("yes", "no"), (("x", "yes"),)),))
        # Behind "needed", the checks alone are wanted on the page home, which needs nothing.
        first = begin(app, Rule(ask="needed"))
        self.assertEqual(first.events, (("begun", "d", 0),))
        self.assertEqual(first.standing[5], ((None, X_YES, None), NONE))

    def test_an_app_with_the_least(self):
        app = App(YN, (("m", 1),), (("x", "no"),), HOME)
        first = begin(app, Rule())
        self.assertEqual(first.standing, (("no",), (0,), (), "home", None, (), (), (), (), False))
        self.assertEqual(first.events, ())


class KeepTest(unittest.TestCase):
    def test_keep_keeps_an_old_word(self):
        app = one_late()
        last = after(app, Rule(keep="keep"), ("land", 0), ("set", "x", "no"))
        self.assertEqual(last.standing[5], (("yes", X_NO, X_YES),))

    def test_clear_clears_an_old_word(self):
        app = one_late()
        last = after(app, Rule(keep="clear"), ("land", 0), ("set", "x", "no"))
        self.assertEqual(last.standing[5], ((None, X_NO, None),))
        self.assertEqual(last.events, (("begun", "d", 0),))

    def test_clear_clears_what_differs_by_the_edition_alone(self):
        app = one_late()
        last = after(app, Rule(keep="clear", code=False), ("land", 0), ("edit", "m", 1))
        self.assertEqual(last.standing[5], ((None, (1, (("x", "yes"),)), None),))

    def test_clear_leaves_what_has_the_call_of_now(self):
        app = one_late()
        last = after(app, Rule(keep="clear"), ("land", 0), ("set", "y", "yes"))
        self.assertEqual(last.standing[5], (("yes", X_YES, X_YES),))

    def test_clear_also_clears_what_is_not_wanted(self):
        pages = (("home", ("d",), None), ("view", (), None))
        app = one_late(pages=pages)
        rule = Rule(keep="clear", ask="needed")
        last = after(app, rule, ("land", 0), ("go", "view"), ("set", "x", "no"))
        self.assertEqual(last.standing[5], ((None, X_YES, None),))
        self.assertEqual(last.events, ())

    def test_clear_asks_again_for_a_word_that_was_taken_too_late(self):
        app = one_late()
        rule = Rule(keep="clear", words=False, again="match")
        last = after(app, rule, ("set", "x", "no"), ("land", 0))
        # The elder word is taken, and cleared in the same deed.
        self.assertEqual(last.events, (("taken", "d", 0),))
        self.assertEqual(last.standing[5], ((None, X_NO, None),))
        last = after(app, rule, ("set", "x", "no"), ("land", 1), ("land", 0))
        self.assertEqual(last.events, (("taken", "d", 0), ("begun", "d", 0)))


class AgainTest(unittest.TestCase):
    def test_change_begins_when_the_call_is_another_one(self):
        app = one_late()
        rule = Rule(again="change")
        told = outcomes(app, rule, ("set", "y", "yes"), ("set", "x", "no"), ("set", "x", "yes"), ("edit", "m", 1))
        self.assertEqual(told, [(), (("begun", "d", 0),), (("begun", "d", 0),), (("begun", "d", 0),)])

    def test_change_does_not_begin_again_behind_a_dropped_act(self):
        app = one_late()
        rule = Rule(again="change", one="one")
        last = after(app, rule, ("set", "x", "no"), ("set", "x", "yes"), ("land", 0))
        self.assertEqual(last.events, (("taken", "d", 0),))
        # Under one "one" nothing was begun for "no"; the call that was begun last is an old one.
        told = outcomes(app, rule, ("set", "x", "no"), ("land", 0))
        self.assertEqual(told, [(), (("dropped", "d", 0), ("begun", "d", 0))])

    def test_match_begins_if_neither_the_word_nor_an_act_has_the_call(self):
        app = one_late()
        rule = Rule(again="match")
        told = outcomes(app, rule, ("set", "x", "no"), ("set", "x", "yes"), ("land", 1), ("set", "x", "no"))
        self.assertEqual(told, [(("begun", "d", 0),), (), (("dropped", "d", 0),), (("begun", "d", 0),)])

    def test_match_begins_again_behind_a_dropped_act(self):
        app = one_late()
        rule = Rule(again="match", newest=True)
        told = outcomes(app, rule, ("set", "x", "no"), ("set", "x", "yes"), ("land", 0))
        self.assertEqual(told, [(("begun", "d", 0),), (), (("dropped", "d", 0), ("begun", "d", 0))])
        rule = Rule(again="change", newest=True)
        told = outcomes(app, rule, ("set", "x", "no"), ("set", "x", "yes"), ("land", 0))
        self.assertEqual(told, [(("begun", "d", 0),), (("begun", "d", 0),), (("dropped", "d", 0),)])

    def test_match_does_not_begin_for_a_word_that_was_made_from_the_call(self):
        app = one_late()
        told = outcomes(app, Rule(again="match"), ("land", 0), ("set", "x", "no"), ("set", "x", "yes"))
        self.assertEqual(told, [(("taken", "d", 0),), (("begun", "d", 0),), ()])
        told = outcomes(app, Rule(again="change"), ("land", 0), ("set", "x", "no"), ("set", "x", "yes"))
        self.assertEqual(told[1:], [(("begun", "d", 0),), (("begun", "d", 0),)])

    def test_the_last_call_is_kept_under_match_too(self):
        app = one_late()
        last = after(app, Rule(again="match"), ("set", "x", "no"), ("set", "x", "yes"))
        self.assertEqual(last.standing[5], ((None, X_NO, None),))
        self.assertEqual(last.standing[6], (("d", 0, X_YES, False), ("d", 0, X_NO, True)))

    def test_calls_that_differ_by_the_edition_are_different(self):
        app = one_late()
        for again in ("change", "match"):
            last = after(app, Rule(again=again), ("edit", "m", 1))
            self.assertEqual(last.events, (("begun", "d", 0),))


class OneTest(unittest.TestCase):
    def test_one_begins_nothing_while_there_is_an_act(self):
        app = one_late()
        rule = Rule(one="one")
        told = outcomes(app, rule, ("set", "x", "no"), ("edit", "m", 1), ("land", 0), ("land", 0))
        self.assertEqual(told, [(), (), (("dropped", "d", 0), ("begun", "d", 0)), (("taken", "d", 0),)])

    def test_many_begins_while_there_are_acts(self):
        app = one_late()
        last = after(app, Rule(one="many"), ("set", "x", "no"), ("edit", "m", 1))
        self.assertEqual([act[2] for act in last.standing[6]], [X_YES, X_NO, (1, (("x", "no"),))])

    def test_one_counts_the_acts_of_each_instance(self):
        app = full_app()
        last = after(app, Rule(one="one"), ("add", 2), ("add", 1))
        self.assertEqual([act[:2] for act in last.standing[6]], [("d", 0), ("e", 0), ("g", 2), ("g", 1)])

    def test_one_with_match(self):
        app = one_late()
        told = outcomes(app, Rule(one="one", again="match"), ("set", "x", "no"), ("set", "x", "yes"), ("land", 0))
        self.assertEqual(told, [(), (), (("taken", "d", 0),)])


class NewestTest(unittest.TestCase):
    def test_the_newest_act_of_an_instance_has_the_flag(self):
        app = full_app()
        last = after(app, Rule(), ("add", 1), ("set", "x", "no"))
        flags = [(act[0], act[2][1][0][1], act[3]) for act in last.standing[6]]
        self.assertEqual(flags, [("d", "yes", False), ("e", "yes", False), ("g", "no", True), ("d", "no", True),
                                 ("e", "no", True)])

    def test_the_flag_does_not_come_back(self):
        app = one_late()
        last = after(app, Rule(), ("set", "x", "no"), ("land", 1))
        self.assertEqual(last.standing[6], (("d", 0, X_YES, False),))

    def test_an_act_that_is_not_the_newest_is_dropped_under_newest(self):
        app = one_late()
        deeds = (("set", "x", "no"), ("set", "x", "yes"), ("land", 0))
        self.assertEqual(after(app, Rule(newest=True), *deeds).events, (("dropped", "d", 0),))
        self.assertEqual(after(app, Rule(newest=False), *deeds).events, (("taken", "d", 0),))


class RowActsTest(unittest.TestCase):
    def test_acts_of_a_row_that_went_stay_and_are_dropped(self):
        for key, number in (("id", 2), ("place", 1)):
            app = row_app()
            told = outcomes(app, Rule(key=key), ("add", 2), ("drop", 2), ("land", 0))
            self.assertEqual(told, [(("begun", "g", number),), (), (("dropped", "g", number),)])

    def test_an_act_belongs_to_the_row_that_has_its_number_now(self):
        app = row_app()
        told = outcomes(app, Rule(key="id"), ("add", 2), ("drop", 2), ("add", 2), ("land", 0))
        self.assertEqual(told[2:], [(("begun", "g", 2),), (("taken", "g", 2),)])
        rule = Rule(key="place")
        told = outcomes(app, rule, ("add", 2), ("drop", 2), ("add", 3), ("land", 0))
        self.assertEqual(told[2:], [(("begun", "g", 1),), (("taken", "g", 1),)])
        last = after(app, rule, ("add", 2), ("drop", 2), ("add", 3), ("land", 0))
        self.assertEqual(last.standing[5], (("no", R_NO, R_NO),))
        self.assertEqual(last.standing[6], (("g", 1, R_NO, True),))

    def test_under_one_an_act_of_an_earlier_row_holds_a_new_one_back(self):
        app = row_app()
        told = outcomes(app, Rule(one="one"), ("add", 2), ("drop", 2), ("add", 2), ("land", 0))
        self.assertEqual(told[1:], [(), (), (("taken", "g", 2), ("begun", "g", 2))])
        told = outcomes(app, Rule(one="one", again="match"), ("add", 2), ("drop", 2), ("add", 2), ("land", 0))
        self.assertEqual(told[1:], [(), (), (("taken", "g", 2),)])

    def test_an_elder_act_of_the_number_loses_its_flag(self):
        app = row_app()
        last = after(app, Rule(), ("add", 2), ("drop", 2), ("add", 2))
        self.assertEqual(last.standing[6], (("g", 2, R_NO, False), ("g", 2, R_NO, True)))

    def test_under_place_a_row_has_the_record_of_its_place(self):
        app = row_app()
        rule = Rule(key="place", keep="clear")
        last = after(app, rule, ("add", 2), ("add", 1), ("rowset", 1, "yes"), ("land", 0), ("land", 1), ("drop", 2))
        # The row 1 is at the place 1 now, and what is there was made for another word.
        self.assertEqual(last.standing[5], ((None, R_YES, None),))
        self.assertEqual(last.events, (("begun", "g", 1),))
        last = after(app, rule.turned("keep", "keep"), ("add", 2), ("add", 1), ("rowset", 1, "yes"), ("land", 0),
                     ("land", 1), ("drop", 2))
        self.assertEqual(last.standing[5], (("no", R_YES, R_NO),))

    def test_instances_are_taken_in_their_order(self):
        app = full_app()
        rule = Rule(key="id")
        last = after(app, rule, ("add", 3), ("add", 1), ("add", 2), ("edit", "n", 1))
        expected = tuple(("begun", slot, row) for slot, row in (("d", 0), ("g", 3), ("g", 1), ("g", 2)))
        self.assertEqual(last.events, expected)


def way_app(guard=None, needs=("d",)):
    """An app with a page view that needs something, and rows."""
    pages = (("home", (), None), ("view", needs, guard), ("last", ("e",), None))
    late = (("d", "m", (X, X)), ("e", "m", (Y, Y)))
    return App(YN, (("m", 2),), (("x", "yes"), ("y", "no")), pages, late=late, rows=("r", "no", "g", "m", (R, R)))


class WayTest(unittest.TestCase):
    def test_a_way_comes_to_its_page_when_the_needs_are_there(self):
        app = way_app()
        for ask in ("eager", "needed"):
            rule = Rule(turn="loaded", ask=ask)
            waits = after(app, rule, ("go", "view"))
            self.assertEqual(waits.standing[3:5], ("home", "view"))
            self.assertEqual(waits.events[0], ("way", "view"))
            there = step(app, rule, waits.standing, ("land", 0))
            self.assertEqual(there.standing[3:5], ("view", None))
            self.assertEqual(there.events, (("taken", "d", 0), ("page", "view")))

    def test_a_way_whose_needs_are_there_already(self):
        app = way_app()
        rule = Rule(turn="loaded")
        last = after(app, rule, ("land", 0), ("go", "view"))
        self.assertEqual(last.events, (("way", "view"), ("page", "view")))
        self.assertEqual(last.standing[3:5], ("view", None))

    def test_an_old_word_is_enough_for_a_way(self):
        app = way_app()
        deeds = (("land", 0), ("set", "x", "no"), ("go", "view"))
        self.assertEqual(after(app, Rule(turn="loaded"), *deeds).standing[3:5], ("view", None))
        self.assertEqual(after(app, Rule(turn="loaded", keep="clear"), *deeds).standing[3:5], ("home", "view"))

    def test_a_dropped_act_leaves_the_way(self):
        app = way_app()
        last = after(app, Rule(turn="loaded"), ("go", "view"), ("set", "x", "no"), ("land", 0))
        self.assertEqual(last.events, (("dropped", "d", 0),))
        self.assertEqual(last.standing[3:5], ("home", "view"))

    def test_a_page_without_needs(self):
        app = way_app(needs=())
        last = after(app, Rule(turn="loaded"), ("go", "view"))
        self.assertEqual(last.events, (("way", "view"), ("page", "view")))

    def test_a_page_that_needs_rows_where_there_are_none(self):
        app = way_app(needs=("g",))
        last = after(app, Rule(turn="loaded"), ("go", "view"))
        self.assertEqual(last.events, (("way", "view"), ("page", "view")))

    def test_every_row_that_is_there_is_needed(self):
        app = way_app(needs=("g",))
        rule = Rule(turn="loaded")
        waits = after(app, rule, ("add", 3), ("add", 1), ("go", "view"), ("land", 2))
        self.assertEqual(waits.events, (("taken", "g", 3),))
        self.assertEqual(waits.standing[3:5], ("home", "view"))
        there = step(app, rule, waits.standing, ("land", 2))
        self.assertEqual(there.events, (("taken", "g", 1), ("page", "view")))
        gone = step(app, rule, waits.standing, ("drop", 1))
        self.assertEqual(gone.events, (("page", "view"),))

    def test_a_row_that_is_added_holds_the_way_back(self):
        app = way_app(needs=("d", "g"))
        rule = Rule(turn="loaded")
        last = after(app, rule, ("go", "view"), ("add", 2), ("land", 0))
        self.assertEqual(last.standing[3:5], ("home", "view"))

    def test_a_guard_is_asked_again_under_land(self):
        app = way_app(guard=("m", (X, X)))
        deeds = (("go", "view"), ("set", "x", "no"), ("land", 2))
        last = after(app, Rule(turn="loaded", guard="land"), *deeds)
        self.assertEqual(last.events, (("taken", "d", 0), ("refused", "view")))
        self.assertEqual(last.standing[3:5], ("home", None))
        last = after(app, Rule(turn="loaded", guard="begin"), *deeds)
        self.assertEqual(last.events, (("taken", "d", 0), ("page", "view")))
        self.assertEqual(last.standing[3:5], ("view", None))

    def test_a_guard_that_lets_under_land(self):
        app = way_app(guard=("m", (X, X)))
        deeds = (("go", "view"), ("set", "x", "no"), ("set", "x", "yes"), ("land", 0))
        for guard in ("begin", "land"):
            last = after(app, Rule(turn="loaded", guard=guard), *deeds)
            self.assertEqual(last.events, (("taken", "d", 0), ("page", "view")))

    def test_the_guard_is_asked_in_the_state_of_that_moment(self):
        app = way_app(guard=("m", (X, ("word", "no"))))
        rule = Rule(turn="loaded", guard="land", code=False)
        last = after(app, rule, ("go", "view"), ("edit", "m", 1), ("land", 0))
        self.assertEqual(last.events, (("taken", "d", 0), ("refused", "view")))

    def test_another_page_is_wanted_for_only_from_the_next_settling_on(self):
        pages = (("home", ("e",), None), ("view", ("d",), ("m", (X, X))))
        late = (("d", "m", (X, X)), ("e", "m", (Y, Y)))
        app = App(YN, (("m", 2),), (("x", "yes"), ("y", "no")), pages, late=late)
        rule = Rule(turn="loaded", ask="needed")
        last = after(app, rule, ("go", "view"), ("set", "y", "yes"), ("land", 1))
        # The word for y was asked for on home, and is asked for no more on view.
        self.assertEqual(last.events, (("taken", "d", 0), ("page", "view")))
        last = step(app, rule, last.standing, ("set", "y", "no"))
        self.assertEqual(last.events, ())


def held_app():
    """An app with two modules, whose page home has two handlers and whose page view has none."""
    handlers = (
        ("h", "m", "home", "y", (NOT_X, X), ("x",), "now"),
        ("k", "n", "home", "x", (Y, NOT_X), (), "now"),
    )
    pages = (("home", (), None), ("view", (), None))
    return App(YN, (("m", 2), ("n", 2)), (("x", "yes"), ("y", "no")), pages, handlers=handlers)


class HeldTest(unittest.TestCase):
    def test_nothing_is_held_under_now(self):
        app = held_app()
        last = after(app, Rule(holds="now"), ("set", "x", "no"), ("edit", "m", 1))
        self.assertEqual(last.standing[7], ())
        self.assertEqual(last.events, ())

    def test_entries_of_the_beginning(self):
        first = begin(held_app(), Rule(holds="listed"))
        self.assertEqual(first.events, (("renewed", "h"), ("renewed", "k")))
        expected = (("h", 0, ("yes",), (("x", "yes"),)), ("k", 0, (), (("y", "no"),)))
        self.assertEqual(first.standing[7], expected)

    def test_an_entry_is_renewed_when_a_listed_word_is_another_one(self):
        last = after(held_app(), Rule(holds="listed"), ("set", "x", "no"))
        self.assertEqual(last.events, (("renewed", "h"),))
        expected = (("h", 0, ("no",), (("x", "no"),)), ("k", 0, (), (("y", "no"),)))
        self.assertEqual(last.standing[7], expected)

    def test_an_entry_is_kept_when_other_words_change(self):
        last = after(held_app(), Rule(holds="listed"), ("set", "y", "yes"))
        self.assertEqual(last.events, ())
        expected = (("h", 0, ("yes",), (("x", "yes"),)), ("k", 0, (), (("y", "no"),)))
        self.assertEqual(last.standing[7], expected)

    def test_another_edition_renews_under_renew_alone(self):
        app = held_app()
        last = after(app, Rule(holds="listed", swap="renew"), ("set", "y", "yes"), ("edit", "n", 1))
        self.assertEqual(last.events, (("renewed", "k"),))
        expected = (("h", 0, ("yes",), (("x", "yes"),)), ("k", 1, (), (("x", "yes"),)))
        self.assertEqual(last.standing[7], expected)
        last = after(app, Rule(holds="listed", swap="keep"), ("set", "y", "yes"), ("edit", "n", 1))
        self.assertEqual(last.events, ())
        expected = (("h", 0, ("yes",), (("x", "yes"),)), ("k", 0, (), (("y", "no"),)))
        self.assertEqual(last.standing[7], expected)

    def test_a_listed_word_renews_under_keep_too(self):
        last = after(held_app(), Rule(holds="listed", swap="keep"), ("edit", "m", 1), ("set", "x", "no"))
        self.assertEqual(last.events, (("renewed", "h"),))
        self.assertEqual(last.standing[7][0], ("h", 1, ("no",), (("x", "no"),)))

    def test_the_edition_of_another_module_does_not_renew(self):
        last = after(held_app(), Rule(holds="listed"), ("edit", "n", 1), ("edit", "n", 0), ("edit", "m", 1))
        self.assertEqual(last.events, (("renewed", "h"),))

    def test_another_page_lets_all_entries_go(self):
        app = held_app()
        rule = Rule(holds="listed", swap="keep")
        last = after(app, rule, ("set", "y", "yes"), ("go", "view"))
        self.assertEqual(last.standing[7], ())
        self.assertEqual(last.events, (("page", "view"),))
        back = step(app, rule, last.standing, ("go", "home"))
        self.assertEqual(back.events, (("page", "home"), ("renewed", "h"), ("renewed", "k")))
        self.assertEqual(back.standing[7][1], ("k", 0, (), (("y", "yes"),)))

    def test_a_page_that_a_way_has_come_to_renews_in_the_same_deed(self):
        app = full_app()
        rule = Rule(holds="listed", turn="loaded")
        last = after(app, rule, ("land", 0), ("go", "view"))
        self.assertEqual(last.events, (("way", "view"), ("page", "view"), ("renewed", "k")))
        self.assertEqual(last.standing[7], (("k", 0, (), (("x", "yes"),)),))

    def test_a_way_leaves_the_entries_while_its_page_is_not_shown(self):
        app = full_app()
        rule = Rule(holds="listed", turn="loaded")
        last = after(app, rule, ("go", "view"))
        self.assertEqual(last.standing[7], (("h", 0, ("yes", "no"), (("x", "yes"),)),))

    def test_a_refused_page_leaves_the_entries(self):
        app = full_app()
        rule = Rule(holds="listed")
        last = after(app, rule, ("set", "x", "no"), ("go", "view"))
        self.assertEqual(last.events, (("refused", "view"),))
        self.assertEqual(last.standing[7], (("h", 0, ("no", "yes"), (("x", "no"),)),))

    def test_the_listed_made_slots_are_asked_now(self):
        made = (("a", "m", (X, ("word", "yes"))),)
        handlers = (("h", "n", "home", "y", (X,), ("a",), "now"),)
        app = App(YN, (("m", 2), ("n", 1)), (("x", "no"), ("y", "no")), HOME, made=made, handlers=handlers)
        rule = Rule(holds="listed")
        told = outcomes(app, rule, ("edit", "m", 1), ("set", "x", "yes"), ("edit", "m", 0))
        self.assertEqual(told, [(("renewed", "h"),), (), ()])


def form_app(form=("d",)):
    """An app with a form, whose made slot a is the input y and whose late slots d and e read x."""
    late = (("d", "m", (X, X)), ("e", "m", (X, X)))
    return one_late(late=late, made=(("a", "m", (Y, Y)),), form=form)


class WaitingTest(unittest.TestCase):
    def test_a_form_that_waits_is_sent(self):
        app = form_app()
        rule = Rule(sending="wait")
        told = outcomes(app, rule, ("send",), ("land", 1), ("land", 0))
        self.assertEqual(told, [(("waiting",),), (("taken", "e", 0),), (("taken", "d", 0), ("sent",))])
        self.assertIs(after(app, rule, ("send",), ("land", 1)).standing[9], True)
        self.assertIs(after(app, rule, ("send",), ("land", 0)).standing[9], False)

    def test_a_form_that_waits_is_held_back(self):
        app = form_app()
        rule = Rule(sending="wait")
        told = outcomes(app, rule, ("set", "x", "no"), ("send",), ("land", 2), ("land", 0))
        self.assertEqual(told[1:], [(("waiting",),), (("taken", "d", 0),), (("dropped", "d", 0), ("unsent",))])
        self.assertIs(after(app, rule, ("set", "x", "no"), ("send",), ("land", 2), ("land", 0)).standing[9], False)

    def test_all_checks_are_awaited_and_asked(self):
        app = form_app(form=("d", "e"))
        rule = Rule(sending="wait")
        told = outcomes(app, rule, ("send",), ("land", 0), ("land", 0))
        self.assertEqual(told, [(("waiting",),), (("taken", "d", 0),), (("taken", "e", 0), ("sent",))])
        app = form_app(form=("a", "d"))
        told = outcomes(app, rule, ("send",), ("land", 0))
        self.assertEqual(told, [(("waiting",),), (("taken", "d", 0), ("unsent",))])
        told = outcomes(app, rule, ("set", "y", "yes"), ("send",), ("land", 0))
        self.assertEqual(told[1:], [(("waiting",),), (("taken", "d", 0), ("sent",))])

    def test_a_check_without_a_word_is_not_right(self):
        late = (("d", "m", (X, X)), ("e", "m", (Y, Y)))
        app = one_late(late=late, form=("d", "e"))
        rule = Rule(sending="wait", saves="records")
        # Behind the reopening, nothing is begun for d, which has the call that was begun last.
        told = outcomes(app, rule, ("reopen", (0,)), ("set", "y", "yes"), ("send",), ("land", 0))
        self.assertEqual(told[1:], [(("begun", "e", 0),), (("waiting",),), (("taken", "e", 0), ("unsent",))])

    def test_an_act_that_is_no_check_is_not_awaited(self):
        app = form_app(form=("a",))
        told = outcomes(app, Rule(sending="wait"), ("send",), ("set", "y", "yes"), ("send",))
        self.assertEqual(told, [(("unsent",),), (), (("sent",),)])

    def test_what_is_begun_at_once_is_awaited_too(self):
        app = form_app()
        rule = Rule(sending="wait", one="one", newest=True, again="match")
        told = outcomes(app, rule, ("set", "x", "no"), ("send",), ("land", 0), ("land", 1))
        self.assertEqual(told, [(), (("waiting",),), (("dropped", "d", 0), ("begun", "d", 0)),
                                (("taken", "d", 0), ("unsent",))])

    def test_the_stages_come_in_their_order(self):
        handlers = (("h", "m", "view", "y", (X, X), (), "now"),)
        pages = (("home", (), None), ("view", ("d",), None))
        app = one_late(pages=pages, handlers=handlers, form=("d",), late=(("d", "m", (X, X)),))
        rule = Rule(turn="loaded", holds="listed", sending="wait")
        told = outcomes(app, rule, ("go", "view"), ("send",), ("land", 0))
        self.assertEqual(told[2], (("taken", "d", 0), ("page", "view"), ("renewed", "h"), ("sent",)))


if __name__ == "__main__":
    unittest.main()
