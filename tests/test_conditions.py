"""[33] to [37]: the conditions, each one with all of its parts and with each part missing."""

import time
import unittest

from onesession.apps import App
from onesession.conditions import barred_reason, call_in, elder_reason, held_walk, pages_come_to, sent_reason, spots
from onesession.conditions import told_apart, unsettled_reason, wanting_pages
from onesession.judging import all_faults, faults
from onesession.rules import PARTS, Rule
from onesession.running import begin, step
from onesession.standings import call_at, lets, states
from tests import reasons
from tests.samples import NOT_X, X, Y, YN, YNM, copied, full_app, interface_app, random_app, random_deed, random_rule
from tests.samples import sources

R = ("slot", "r")
NEVER = ("word", "no")
HOME = (("home", (), None),)
CONDITIONS = {"unsettled": unsettled_reason, "elder": elder_reason, "barred": barred_reason, "sent": sent_reason}
ALL_REASONS = {"unsettled": reasons.unsettled_reasons, "elder": reasons.elder_reasons,
               "barred": reasons.barred_reasons, "sent": reasons.sent_reasons}


def one_late(expr=X, home=("d",), other=(), home_guard=None, other_guard=None, editions=None, **changes):
    """An app with a late slot, a page home and a page view; a guard is an expression."""
    exprs = (expr,) if editions is None else editions
    count = len(exprs)

    def guard(found):
        return None if found is None else ("n", (found,))

    pages = (("home", home, guard(home_guard)), ("view", other, guard(other_guard)))
    passed = {"inputs": (("x", "yes"),), **changes}
    return App(YN, (("m", count), ("n", 1)), passed.pop("inputs"), pages, late=(("d", "m", exprs),), **passed)


def row_app(**changes):
    """An app whose rows have a late word that reads the word of the row."""
    passed = {"pages": (("home", ("g",), None), ("view", (), None)), **changes}
    return App(YN, (("m", 1),), (("x", "yes"),), passed.pop("pages"), rows=("r", "no", "g", "m", (R,)), **passed)


def handler_app(when="now", exprs=(NOT_X,), listed=(), page="home", guard=None, **changes):
    """An app with a handler; its module has as many editions as there are expressions."""
    pages = (("home", (), None), ("view", (), None if guard is None else ("n", (guard,))))
    handlers = (("h", "m", page, "x", exprs, listed, when),)
    passed = {"inputs": (("x", "yes"), ("y", "no")), **changes}
    return App(YN, (("m", len(exprs)), ("n", 1)), passed.pop("inputs"), pages, handlers=handlers, **passed)


def form_app(form=("d",), late=(("d", "m", (X,)),), made=(), count=1, inputs=(("x", "yes"), ("y", "yes"))):
    """An app with a form."""
    return App(YN, (("m", count),), inputs, HOME, late=late, made=made, form=form)


def small_app(source):
    """A random app with few states, so that all values that have the form of a reason are few."""
    words = YN
    modules = (("m", source.randint(1, 2)), ("n", 1))[:source.randint(1, 2)]
    counts = dict(modules)
    inputs = tuple((slot, source.choice(words)) for slot in ("x", "y")[:1 + (counts["m"] == 1)])
    slots = [slot for slot, _ in inputs]

    def parts(module, more=()):
        table = [("slot", slot) for slot in slots + list(more)] + [("word", word) for word in words]
        one = [source.choice(table) for _ in range(counts[module])]
        return tuple(("map", ("no", "yes"), expr) if source.random() < 0.4 else expr for expr in one)

    def module():
        return source.choice(modules)[0]

    late = ()
    for slot in ("d", "e")[:source.randint(0, 2)]:
        owner = module()
        late += ((slot, owner, parts(owner)),)
    made = (("a", "m", parts("m")),) if source.random() < 0.5 else ()
    rows = ("r", "no", "g", "m", parts("m", ("r",))) if not late or source.random() < 0.3 else None
    needed = [item[0] for item in late] + ([] if rows is None else ["g"])
    pages = ()
    for name in ("home", "view", "last")[:source.randint(1, 3)]:
        owner = module()
        guard = None if source.random() < 0.5 else (owner, parts(owner))
        pages += ((name, tuple(source.sample(needed, source.randint(0, len(needed)))), guard),)
    handlers = ()
    for name in ("h", "k")[:source.randint(0, 2)]:
        owner = module()
        listed = tuple(source.sample(slots, source.randint(0, len(slots))))
        handlers += ((name, owner, source.choice(pages)[0], "x", parts(owner), listed, source.choice(("now", "later"))),)
    checks = [item[0] for item in late + made]
    form = tuple(source.sample(checks, min(len(checks), source.randint(1, 2)))) or None
    form = form if source.random() < 0.6 else None
    return App(words, modules, inputs, pages, made=made, late=late, rows=rows, handlers=handlers, form=form)


class ConditionCase(unittest.TestCase):
    def assert_reason(self, app, rule, kind, name, head=None):
        """There is a reason, and it meets all that the document says; return it."""
        kept = copied((app.pages, app.late, app.rows, app.handlers, app.form, rule.choice))
        found = CONDITIONS[kind](app, rule, name)
        self.assertIn(found, ALL_REASONS[kind](app, rule, name))
        self.assertEqual((app.pages, app.late, app.rows, app.handlers, app.form, rule.choice), kept)
        if head is not None:
            self.assertEqual(found[0], head)
        return found

    def assert_none(self, app, rule, kind, name):
        self.assertEqual(ALL_REASONS[kind](app, rule, name), [])
        self.assertIsNone(CONDITIONS[kind](app, rule, name))


class SpotsTest(unittest.TestCase):
    def test_spots_of_a_late_slot(self):
        expected = [(("yes",), (0,), None), (("yes",), (1,), None), (("no",), (0,), None), (("no",), (1,), None)]
        self.assertEqual(spots(interface_app(), "d"), expected)

    def test_spots_of_rows(self):
        app = row_app()
        expected = [((word,), (0,), row) for word in YN for row in YN]
        self.assertEqual(spots(app, "g"), expected)
        three = App(YNM, (("m", 2),), (("x", "no"),), HOME, rows=("r", "no", "g", "m", (R, R)))
        told = spots(three, "g")
        self.assertEqual(told[:4], [(("yes",), (0,), "yes"), (("yes",), (0,), "no"), (("yes",), (0,), "may"),
                                    (("yes",), (1,), "yes")])
        self.assertEqual(len(told), 18)

    def test_the_order_is_that_of_the_states(self):
        for source in sources(40):
            app = random_app(source)
            for slot in app.late_slots:
                words = app.words if slot not in app.late_names else (None,)
                expected = [state + (word,) for state in states(app) for word in words]
                self.assertEqual(spots(app, slot), expected)

    def test_a_new_list_each_time(self):
        app = interface_app()
        spots(app, "d").clear()
        self.assertEqual(len(spots(app, "d")), 4)
        self.assertIs(type(spots(app, "d")), list)

    def test_call_in(self):
        self.assertEqual(call_in(interface_app(), "d", (("no",), (1,), None)), (1, (("x", "no"),)))
        self.assertEqual(call_in(row_app(), "g", (("yes",), (0,), "no")), (0, (("r", "no"),)))
        for source in sources(40):
            app = random_app(source)
            for slot in app.late_slots:
                for spot in spots(app, slot):
                    self.assertEqual(call_in(app, slot, spot), call_at(app, slot, *spot))


class ToldApartTest(unittest.TestCase):
    def test_words_and_code(self):
        call = (0, (("x", "yes"),))
        others = {
            "same": (0, (("x", "yes"),)), "word": (0, (("x", "no"),)), "slot": (0, (("y", "yes"),)), "fewer": (0, ()),
            "code": (1, (("x", "yes"),)), "both": (1, (("x", "no"),)),
        }
        expected = {
            (True, True): {"word", "slot", "fewer", "code", "both"}, (True, False): {"word", "slot", "fewer", "both"},
            (False, True): {"code", "both"}, (False, False): set(),
        }
        for (words, code), apart in expected.items():
            rule = Rule(words=words, code=code, newest=True)
            for name, other in others.items():
                self.assertIs(told_apart(rule, call, other), name in apart, (words, code, name))
                self.assertIs(told_apart(rule, other, call), name in apart)


class PagesTest(unittest.TestCase):
    def test_pages_come_to(self):
        self.assertEqual(pages_come_to(one_late()), ("home", "view"))
        # The first page is come to even if its guard lets in no state.
        self.assertEqual(pages_come_to(one_late(home_guard=NEVER, other_guard=NEVER)), ("home",))
        self.assertEqual(pages_come_to(one_late(home_guard=NEVER, other_guard=X)), ("home", "view"))
        self.assertEqual(pages_come_to(full_app()), ("home", "view", "last"))

    def test_a_guard_that_lets_in_another_edition_alone(self):
        pages = (("home", (), None), ("last", (), ("m", (NEVER, X))), ("view", (), ("m", (NEVER, NEVER))))
        app = App(YN, (("m", 2),), (("x", "no"),), pages)
        self.assertEqual(pages_come_to(app), ("home", "last"))

    def test_wanting_pages(self):
        pages = (("home", (), None), ("view", ("d", "g"), ("m", (NEVER,))), ("last", ("d", "e"), None))
        late = (("d", "m", (X,)), ("e", "m", (X,)), ("f", "m", (X,)))
        rows = ("r", "no", "g", "m", (R,))
        needed = Rule(ask="needed")
        app = App(YN, (("m", 1),), (("x", "yes"),), pages, late=late, rows=rows)
        for slot in app.late_slots:
            self.assertEqual(wanting_pages(app, Rule(ask="eager"), slot), [None])
        told = {slot: wanting_pages(app, needed, slot) for slot in app.late_slots}
        # A page that can't be come to wants nothing, and there may be none.
        self.assertEqual(told, {"d": ["last"], "e": ["last"], "f": [], "g": []})
        checked = App(YN, (("m", 1),), (("x", "yes"),), pages, late=late, rows=rows, form=("f", "d"))
        told = {slot: wanting_pages(checked, needed, slot) for slot in app.late_slots}
        self.assertEqual(told, {"d": [None], "e": ["last"], "f": [None], "g": []})

    def test_wanting_pages_in_the_order_of_the_app(self):
        app = one_late(other=("d",))
        self.assertEqual(wanting_pages(app, Rule(ask="needed"), "d"), ["home", "view"])
        self.assertEqual(wanting_pages(one_late(home=(), other=("d",)), Rule(ask="needed"), "d"), ["view"])

    def test_a_new_list_each_time(self):
        app = one_late()
        for rule in (Rule(), Rule(ask="needed")):
            told = wanting_pages(app, rule, "d")
            kept = list(told)
            told.append("more")
            self.assertEqual(wanting_pages(app, rule, "d"), kept)
        self.assertIs(type(pages_come_to(app)), tuple)


class LateTest(ConditionCase):
    def test_it_holds(self):
        found = self.assert_reason(one_late(), Rule(words=False), "unsettled", "d", "late")
        self.assertIsNone(found[1])
        self.assertNotEqual(found[2][0], found[3][0])
        self.assert_reason(row_app(), Rule(words=False), "unsettled", "g", "late")

    def test_parts_of_the_rule(self):
        for change in ({"again": "match"}, {"one": "one"}, {"newest": True}, {"words": True}):
            self.assert_none(one_late(), Rule(**{"words": False, **change}), "unsettled", "d")
            self.assert_none(row_app(), Rule(**{"words": False, **change}), "unsettled", "g")
        for change in ({"code": False}, {"turn": "loaded"}, {"key": "place"}, {"guard": "land"}, {"sending": "go"}):
            self.assert_reason(one_late(), Rule(words=False, **change), "unsettled", "d", "late")

    def test_editions_alone(self):
        app = one_late(editions=(X, NOT_X))
        self.assert_none(app, Rule(), "unsettled", "d")
        found = self.assert_reason(app, Rule(code=False), "unsettled", "d", "late")
        self.assertEqual(found[2][0], found[3][0])
        # Editions that read other slots are told apart by words.
        self.assert_none(one_late(editions=(X, NEVER)), Rule(code=False), "unsettled", "d")
        self.assert_reason(one_late(editions=(X, NEVER)), Rule(code=False, words=False), "unsettled", "d", "late")

    def test_results(self):
        same = ("map", ("yes", "yes"), X)
        self.assert_none(one_late(same), Rule(words=False), "unsettled", "d")
        # Under keep "clear" the calls count, not the results.
        self.assert_reason(one_late(same), Rule(words=False, keep="clear"), "unsettled", "d", "late")
        self.assert_none(one_late(NEVER), Rule(words=False, code=False, keep="clear"), "unsettled", "d")
        self.assert_none(one_late(), Rule(keep="clear"), "unsettled", "d")

    def test_pages(self):
        rule = Rule(words=False, ask="needed")
        found = self.assert_reason(one_late(other=("d",)), rule, "unsettled", "d", "late")
        self.assertIn(found[1], ("home", "view"))
        self.assert_none(one_late(home=()), rule, "unsettled", "d")
        self.assert_none(one_late(home=(), other=("d",), other_guard=NEVER), rule, "unsettled", "d")
        found = self.assert_reason(one_late(home=(), other=("d",), other_guard=NOT_X), rule, "unsettled", "d", "late")
        self.assertEqual(found[1], "view")
        # A check of the form is wanted everywhere.
        found = self.assert_reason(one_late(home=(), form=("d",)), rule, "unsettled", "d", "late")
        self.assertIsNone(found[1])
        self.assert_none(one_late(home=()), rule, "unsettled", "d")

    def test_the_first_page_wants_though_its_guard_lets_nowhere(self):
        rule = Rule(words=False, ask="needed")
        found = self.assert_reason(one_late(home_guard=NEVER), rule, "unsettled", "d", "late")
        self.assertEqual(found[1], "home")


class ReturnTest(ConditionCase):
    def test_it_holds(self):
        found = self.assert_reason(one_late(), Rule(ask="needed"), "unsettled", "d", "return")
        self.assertEqual(found[1:3], ("home", "view"))
        self.assertNotEqual(found[3], found[4])
        found = self.assert_reason(one_late(), Rule(ask="needed", turn="loaded"), "unsettled", "d", "return")
        self.assertIsNone(found[5])
        found = self.assert_reason(one_late(home=(), other=("d",)), Rule(ask="needed"), "unsettled", "d", "return")
        self.assertEqual(found[1:3], ("view", "home"))
        self.assert_reason(row_app(), Rule(ask="needed"), "unsettled", "g", "return")

    def test_parts_of_the_rule(self):
        for turn in ("once", "loaded"):
            for change in ({"again": "match"}, {"ask": "eager"}):
                self.assert_none(one_late(), Rule(**{"ask": "needed", "turn": turn, **change}), "unsettled", "d")
            for change in ({"one": "one"}, {"newest": True}, {"keep": "clear"}, {"code": False}, {"guard": "land"}):
                rule = Rule(ask="needed", turn=turn, **change)
                self.assert_reason(one_late(), rule, "unsettled", "d", "return")

    def test_what_is_told_apart(self):
        # Newest keeps the first condition away.
        rule = {"ask": "needed", "newest": True}
        self.assert_reason(one_late(), Rule(words=True, code=False, **rule), "unsettled", "d", "return")
        self.assert_none(one_late(), Rule(words=False, code=True, **rule), "unsettled", "d")
        two = one_late(editions=(X, X))
        self.assert_reason(two, Rule(words=False, code=True, **rule), "unsettled", "d", "return")
        self.assert_none(two, Rule(words=False, code=False, **rule), "unsettled", "d")
        # Under keep "clear" it is enough that the calls are unlike.
        self.assert_reason(two, Rule(words=False, code=False, keep="clear", **rule), "unsettled", "d", "return")
        self.assert_none(one_late(NEVER), Rule(keep="clear", **rule), "unsettled", "d")
        # The results do not count.
        self.assert_reason(one_late(("map", ("yes", "yes"), X)), Rule(**rule), "unsettled", "d", "return")

    def test_a_check_of_the_form(self):
        self.assert_none(one_late(form=("d",)), Rule(ask="needed"), "unsettled", "d")

    def test_pages(self):
        for turn in ("once", "loaded"):
            rule = Rule(ask="needed", turn=turn)
            self.assert_none(one_late(home=()), rule, "unsettled", "d")
            self.assert_none(one_late(other=("d",)), rule, "unsettled", "d")
            self.assert_none(one_late(other_guard=NEVER), rule, "unsettled", "d")
            self.assert_none(one_late(home=(), other=("d",), other_guard=NEVER), rule, "unsettled", "d")
            # The first page can be come to, but not come back to.
            self.assert_none(one_late(home_guard=NEVER), rule, "unsettled", "d")
            found = self.assert_reason(one_late(home_guard=NOT_X), rule, "unsettled", "d", "return")
            self.assertEqual(found[3][0], ("no",))

    def test_the_first_page_that_lets_nowhere_cannot_be_left_for(self):
        app = one_late(home=(), other=("d",), home_guard=NEVER)
        for one in ("many", "one"):
            self.assert_none(app, Rule(ask="needed", one=one), "unsettled", "d")
            # Under way to a page nothing is asked of the guard of the one that is shown.
            found = self.assert_reason(app, Rule(ask="needed", one=one, turn="loaded"), "unsettled", "d", "return")
            self.assertEqual(found[1:3], ("view", "home"))

    def test_leaving(self):
        # The page lets where x is right and the other one where it is not, so the calls are unlike there.
        app = one_late(home_guard=X, other_guard=NOT_X)
        self.assert_none(app, Rule(ask="needed"), "unsettled", "d")
        found = self.assert_reason(app, Rule(ask="needed", one="one"), "unsettled", "d", "return")
        self.assertEqual((found[3][0], found[5][0]), (("yes",), ("no",)))
        self.assert_reason(app, Rule(ask="needed", turn="loaded"), "unsettled", "d", "return")
        # With another input the call can be the same in both.
        inputs = (("x", "yes"), ("y", "no"))
        app = one_late(Y, home_guard=X, other_guard=NOT_X, inputs=inputs)
        found = self.assert_reason(app, Rule(ask="needed"), "unsettled", "d", "return")
        self.assertNotEqual(found[3][0][0], found[5][0][0])
        self.assertEqual(found[3][0][1], found[5][0][1])

    def test_rows(self):
        pages = (("home", ("g",), ("m", (X,))), ("view", (), ("m", (NOT_X,))))
        app = row_app(pages=pages)
        found = self.assert_reason(app, Rule(ask="needed"), "unsettled", "g", "return")
        self.assertEqual(found[3][2], found[5][2])
        self.assertNotEqual(found[3][2], found[4][2])


class SavedTest(ConditionCase):
    def test_records(self):
        found = self.assert_reason(one_late(NEVER), Rule(saves="records"), "unsettled", "d", "saved")
        self.assertEqual(found[2], found[3])
        self.assertIsNone(found[1])
        self.assert_none(one_late(NEVER), Rule(saves="records", again="match"), "unsettled", "d")
        self.assert_none(one_late(NEVER), Rule(saves="nothing"), "unsettled", "d")
        self.assert_none(one_late(NEVER), Rule(saves="values"), "unsettled", "d")
        self.assert_reason(one_late(), Rule(saves="records", keep="clear", one="one"), "unsettled", "d", "saved")
        self.assert_reason(row_app(), Rule(saves="records"), "unsettled", "g", "saved")

    def test_values(self):
        for again in ("change", "match"):
            rule = Rule(saves="values", again=again)
            found = self.assert_reason(one_late(), rule, "unsettled", "d", "saved")
            self.assertNotEqual(found[2][0], found[3][0])
            self.assert_none(one_late(("map", ("no", "no"), X)), rule, "unsettled", "d")
            self.assert_none(one_late(), Rule(saves="values", keep="clear", again=again), "unsettled", "d")
            self.assert_none(one_late(), Rule(saves="nothing", again=again), "unsettled", "d")
            self.assert_reason(row_app(), rule, "unsettled", "g", "saved")

    def test_pages(self):
        kinds = (Rule(saves="records", ask="needed"), Rule(saves="values", ask="needed", again="match"))
        for rule in kinds:
            # The page needs no other one beside it: only a page that does not need the slot could be left for.
            both = {"home": ("d",), "other": ("d",)}
            self.assert_reason(one_late(**both), rule, "unsettled", "d", "saved")
            # The first page is shown behind a reopening, whatever its guard says.
            found = self.assert_reason(one_late(home_guard=NEVER, other_guard=NEVER, **both), rule, "unsettled", "d", "saved")
            self.assertEqual(found[1], "home")
            self.assert_none(one_late(home=()), rule, "unsettled", "d")
            self.assert_none(one_late(home=(), other=("d",), other_guard=NEVER), rule, "unsettled", "d")
        for word, guard in (("no", NOT_X), ("yes", X)):
            app = one_late(home=(), other=("d",), other_guard=guard)
            found = self.assert_reason(app, kinds[1], "unsettled", "d", "saved")
            self.assertEqual((found[1], found[3][0]), ("view", (word,)))
        found = self.assert_reason(one_late(home=(), form=("d",)), kinds[0], "unsettled", "d", "saved")
        self.assertIsNone(found[1])

    def test_a_page_that_lets_only_where_it_is_settled(self):
        # The word is always "yes" where the page lets, but it can have been "no" when it was kept.
        app = one_late(home=(), other=("d",), other_guard=X)
        found = self.assert_reason(app, Rule(saves="values", ask="needed", again="match"), "unsettled", "d", "saved")
        self.assertEqual((found[2][0], found[3][0]), (("no",), ("yes",)))


class HeldWalkTest(unittest.TestCase):
    def test_the_same_state(self):
        for state in states(handler_app()):
            self.assertEqual(held_walk(handler_app(listed=("x", "y")), Rule(), "h", state, state), [state])

    def test_one_step(self):
        app = handler_app(listed=("y",))
        first, second = (("yes", "no"), (0, 0)), (("no", "no"), (0, 0))
        self.assertEqual(held_walk(app, Rule(), "h", first, second), [first, second])

    def test_none(self):
        app = handler_app(listed=("x",))
        self.assertIsNone(held_walk(app, Rule(), "h", (("yes", "no"), (0, 0)), (("no", "no"), (0, 0))))

    def test_editions(self):
        app = handler_app(exprs=(X, NOT_X))
        first, second = (("yes", "no"), (0, 0)), (("yes", "no"), (1, 0))
        self.assertIsNone(held_walk(app, Rule(swap="renew"), "h", first, second))
        self.assertEqual(held_walk(app, Rule(swap="keep"), "h", first, second), [first, second])

    def test_the_edition_of_another_module(self):
        handlers = (("h", "m", "home", "x", (X,), (), "now"),)
        app = App(YN, (("m", 1), ("n", 2)), (("x", "yes"),), HOME, handlers=handlers)
        first, second = (("yes",), (0, 0)), (("yes",), (0, 1))
        self.assertEqual(held_walk(app, Rule(swap="renew"), "h", first, second), [first, second])

    def test_a_way_round(self):
        # The listed made slot is right where x or y is, so from one of them to the other a walk leads over both.
        made = (("a", "n", (("pair", (("yes", "yes"), ("yes", "no")), X, Y),)),)
        app = handler_app(listed=("a",), made=made)
        first, second = (("yes", "no"), (0, 0)), (("no", "yes"), (0, 0))
        self.assertEqual(held_walk(app, Rule(), "h", first, second), [first, (("yes", "yes"), (0, 0)), second])
        self.assertIsNone(held_walk(app, Rule(), "h", first, (("no", "no"), (0, 0))))

    def test_two_states_with_the_same_listed_words_and_no_walk(self):
        # The listed made slot tells whether x and y are the same, so every step changes it.
        made = (("a", "n", (("pair", (("yes", "no"), ("no", "yes")), X, Y),)),)
        app = handler_app(listed=("a",), made=made)
        self.assertIsNone(held_walk(app, Rule(), "h", (("yes", "yes"), (0, 0)), (("no", "no"), (0, 0))))

    def test_against_all_steps(self):
        for source in sources(60):
            app, rule = random_app(source), random_rule(source)
            for handler in app.handler_names:
                first = source.choice(states(app))
                reached = reasons.distances(app, rule, handler, first)
                for second in states(app):
                    walk = held_walk(app, rule, handler, first, second)
                    self.assertEqual(walk is not None, second in reached)
                    if walk is not None:
                        self.assertEqual((walk[0], walk[-1], len(walk)), (first, second, reached[second] + 1))
                        for state, other in zip(walk, walk[1:]):
                            self.assertTrue(reasons.is_held_step(app, rule, handler, state, other))

    def test_a_new_list_each_time(self):
        state = states(handler_app())[0]
        held_walk(handler_app(), Rule(), "h", state, state).clear()
        self.assertEqual(held_walk(handler_app(), Rule(), "h", state, state), [state])


class ElderTest(ConditionCase):
    def test_now(self):
        rule = Rule(holds="listed")
        self.assert_reason(handler_app(), rule, "elder", "h", "held")
        self.assert_none(handler_app(), Rule(holds="now"), "elder", "h")
        self.assert_none(handler_app(), Rule(holds="now", timers="held"), "elder", "h")
        self.assert_reason(handler_app(), Rule(holds="listed", timers="now"), "elder", "h", "held")
        self.assert_none(handler_app(listed=("x",)), rule, "elder", "h")
        self.assert_reason(handler_app(listed=("y",)), rule, "elder", "h", "held")
        self.assert_none(handler_app(exprs=(NEVER,)), rule, "elder", "h")

    def test_now_with_editions(self):
        app = handler_app(exprs=(X, NOT_X), listed=("x",))
        self.assert_none(app, Rule(holds="listed", swap="renew"), "elder", "h")
        self.assert_reason(app, Rule(holds="listed", swap="keep"), "elder", "h", "held")
        self.assert_none(handler_app(exprs=(X, X), listed=("x",)), Rule(holds="listed", swap="keep"), "elder", "h")

    def test_no_walk(self):
        made = (("a", "n", (("pair", (("yes", "no"), ("no", "yes")), X, Y),)),)
        self.assert_none(handler_app(listed=("a",), made=made), Rule(holds="listed"), "elder", "h")

    def test_later(self):
        app = handler_app("later", listed=("x",))
        self.assert_reason(app, Rule(timers="held"), "elder", "h", "held")
        self.assert_none(app, Rule(timers="now"), "elder", "h")
        self.assert_none(app, Rule(timers="now", holds="listed"), "elder", "h")
        self.assert_reason(app, Rule(timers="held", holds="listed"), "elder", "h", "held")
        self.assert_none(handler_app("later", exprs=(NEVER,)), Rule(timers="held"), "elder", "h")
        # What is listed and renewed is no matter for a timer.
        self.assert_reason(handler_app("later", exprs=(NEVER, ("word", "yes"))), Rule(timers="held"), "elder", "h", "held")

    def test_pages(self):
        for when, rule in (("now", Rule(holds="listed")), ("later", Rule(timers="held"))):
            self.assert_reason(handler_app(when, page="view"), rule, "elder", "h", "held")
            self.assert_reason(handler_app(when, page="view", guard=NOT_X), rule, "elder", "h", "held")
            self.assert_none(handler_app(when, page="view", guard=NEVER), rule, "elder", "h")

    def test_the_first_page_can_always_be_come_to(self):
        pages = (("home", (), ("m", (NEVER,))),)
        handlers = (("h", "m", "home", "x", (X,), (), "now"),)
        app = App(YN, (("m", 1),), (("x", "yes"),), pages, handlers=handlers)
        self.assert_reason(app, Rule(holds="listed"), "elder", "h", "held")


class BarredTest(ConditionCase):
    RULE = Rule(turn="loaded", guard="begin")

    def test_another_page(self):
        app = one_late(home=(), other=("d",), other_guard=X)
        found = self.assert_reason(app, self.RULE, "barred", "view", "way")
        self.assertEqual(found, ("way", None, (("yes",), (0, 0)), (("no",), (0, 0))))
        self.assert_none(app, Rule(turn="once"), "barred", "view")
        self.assert_none(app, Rule(turn="loaded", guard="land"), "barred", "view")
        self.assert_none(app, self.RULE, "barred", "home")
        self.assert_none(one_late(home=(), other=(), other_guard=X), self.RULE, "barred", "view")

    def test_the_guard(self):
        self.assert_none(one_late(other=("d",)), self.RULE, "barred", "view")
        for guard in (NEVER, ("word", "yes")):
            self.assert_none(one_late(other=("d",), other_guard=guard), self.RULE, "barred", "view")
            self.assert_none(one_late(home_guard=guard), self.RULE, "barred", "home")

    def test_the_first_page(self):
        found = self.assert_reason(one_late(home_guard=X), self.RULE, "barred", "home", "way")
        self.assertEqual(found[1], "view")
        self.assert_none(one_late(home_guard=X, other_guard=NEVER), self.RULE, "barred", "home")
        self.assert_none(one_late(home=(), home_guard=X), self.RULE, "barred", "home")
        alone = App(YN, (("m", 1),), (("x", "yes"),), (("home", ("d",), ("m", (X,))),), late=(("d", "m", (X,)),))
        self.assert_none(alone, self.RULE, "barred", "home")

    def test_the_first_page_and_one_that_needs_the_same(self):
        app = one_late(home_guard=X, other=("d",))
        self.assert_none(app, self.RULE, "barred", "home")
        self.assert_reason(app, Rule(turn="loaded", keep="clear"), "barred", "home", "way")
        # Under keep "clear" the slot has to have two unlike calls.
        self.assert_none(one_late(NEVER, home_guard=X, other=("d",)), Rule(turn="loaded", keep="clear"), "barred", "home")
        two = one_late(editions=(NEVER, NEVER), home_guard=X, other=("d",))
        self.assert_reason(two, Rule(turn="loaded", keep="clear"), "barred", "home", "way")

    def test_the_first_page_and_rows(self):
        for needs, holds in ((("g",), True), (("g", "d"), True), (("d",), False)):
            pages = (("home", needs, ("m", (X,))), ("view", ("d", "g"), None))
            app = row_app(pages=pages, late=(("d", "m", (X,)),))
            if holds:
                self.assert_reason(app, self.RULE, "barred", "home", "way")
            else:
                self.assert_none(app, self.RULE, "barred", "home")

    def test_the_other_page_is_one_that_will_do(self):
        pages = (("home", ("d",), ("m", (X,))), ("view", ("d",), None), ("last", (), None))
        app = App(YN, (("m", 1),), (("x", "yes"),), pages, late=(("d", "m", (X,)),))
        self.assertEqual(self.assert_reason(app, self.RULE, "barred", "home", "way")[1], "last")


class SentTest(ConditionCase):
    def test_go(self):
        for check, app in (("d", form_app()), ("a", form_app(("a",), made=(("a", "m", (X,)),)))):
            found = self.assert_reason(app, Rule(sending="go"), "sent", check, "sent")
            self.assertEqual(found, ("sent", "go", found[2], ()))
            self.assertEqual(found[2][0][0], "no")
        right = form_app(("d", "a"), (("d", "m", (("word", "yes"),)),), (("a", "m", (("word", "yes"),)),))
        for check in ("d", "a"):
            self.assert_none(right, Rule(sending="go", keep="clear", saves="records"), "sent", check)
        self.assert_reason(form_app(), Rule(sending="go", keep="clear", again="match"), "sent", "d", "sent")

    def test_late(self):
        for sending in ("bar", "wait"):
            rule = {"words": False, "sending": sending}
            found = self.assert_reason(form_app(), Rule(**rule), "sent", "d", "sent")
            self.assertEqual((found[1], len(found[3])), ("late", 1))
            for change in ({"keep": "clear"}, {"again": "match"}, {"one": "one"}, {"newest": True}, {"words": True}):
                self.assert_none(form_app(), Rule(**{**rule, **change}), "sent", "d")
            self.assert_reason(form_app(), Rule(code=False, **rule), "sent", "d", "sent")

    def test_late_with_editions(self):
        app = form_app(late=(("d", "m", (X, NOT_X)),), count=2)
        self.assert_none(app, Rule(), "sent", "d")
        found = self.assert_reason(app, Rule(code=False), "sent", "d", "sent")
        self.assertEqual(found[2][0][0], found[3][0][0][0])
        self.assertNotEqual(found[2][1], found[3][0][1])

    def test_a_made_check(self):
        app = form_app(("a", "d"), made=(("a", "m", (Y,)),))
        for rule in (Rule(words=False), Rule(saves="values"), Rule(saves="records", sending="wait")):
            self.assert_none(app, rule, "sent", "a")
        # The made check has to be right where the late one is not.
        found = self.assert_reason(app, Rule(words=False), "sent", "d", "sent")
        self.assertIsNone(found[3][0])
        self.assertEqual(found[2][0], ("no", "yes"))
        same = form_app(("a", "d"), made=(("a", "m", (X,)),))
        self.assert_none(same, Rule(words=False), "sent", "d")
        self.assert_none(same, Rule(saves="values"), "sent", "d")

    def test_two_late_checks(self):
        late = (("d", "m", (X,)), ("e", "m", (Y,)))
        app = form_app(("e", "d"), late)
        for rule, how in ((Rule(words=False), "late"), (Rule(saves="values"), "saved")):
            for check in ("d", "e"):
                found = self.assert_reason(app, rule, "sent", check, "sent")
                self.assertEqual((found[1], len(found[3])), (how, 2))
        # Both are wrong in the same states, and the second one can never have been right in its edition.
        both = (("d", "m", (X,)), ("e", "m", (("pair", (("no", "no"), ("no", "no")), X, Y),)))
        self.assert_none(form_app(("d", "e"), both), Rule(words=False), "sent", "d")
        self.assert_none(form_app(("d", "e"), both), Rule(saves="values"), "sent", "e")
        # Both are wrong together, and have been right together.
        again = (("d", "m", (X,)), ("e", "m", (X,)))
        found = self.assert_reason(form_app(("d", "e"), again), Rule(words=False), "sent", "e", "sent")
        self.assertNotIn(None, found[3])

    def test_saved(self):
        for sending in ("bar", "wait"):
            for change in ({"saves": "values"}, {"saves": "values", "again": "match"}, {"saves": "records"}):
                found = self.assert_reason(form_app(), Rule(sending=sending, **change), "sent", "d", "sent")
                self.assertEqual(found[1], "saved")
                self.assert_none(form_app(), Rule(sending=sending, keep="clear", **change), "sent", "d")
            self.assert_none(form_app(), Rule(sending=sending, saves="records", again="match"), "sent", "d")
            self.assert_none(form_app(), Rule(sending=sending, saves="nothing"), "sent", "d")

    def test_a_check_that_is_never_right_or_always(self):
        for word in YN:
            app = form_app(late=(("d", "m", (("word", word),)),))
            for rule in (Rule(words=False, code=False), Rule(saves="values"), Rule(saves="records")):
                self.assert_none(app, rule, "sent", "d")


class AllReasonsTest(ConditionCase):
    def test_against_all_reasons(self):
        found = {}
        loose = {"again": "change", "one": "many", "newest": False, "words": False, "keep": "keep", "sending": "wait"}
        for number, source in enumerate(sources(250)):
            app, rule = small_app(source), random_rule(source, **(loose if number % 4 == 0 else {}))
            for kind, name in all_faults(app):
                told = CONDITIONS[kind](app, rule, name)
                known = ALL_REASONS[kind](app, rule, name)
                if told is None:
                    self.assertEqual(known, [], (rule.choice, kind, name))
                else:
                    self.assertIn(told, known, (rule.choice, kind, name))
                found.setdefault(kind, []).append(told and told[0] + (told[1] if told[0] == "sent" else ""))
        self.assertEqual(set(found["unsettled"]), {None, "late", "return", "saved"})
        self.assertEqual(set(found["elder"]), {None, "held"})
        self.assertEqual(set(found["barred"]), {None, "way"})
        self.assertEqual(set(found["sent"]), {None, "sentgo", "sentlate", "sentsaved"})

    def test_each_value_of_each_part(self):
        for source in sources(25, start=900):
            app, rule = small_app(source), random_rule(source)
            for part, values in PARTS:
                for value in values:
                    turned = rule.turned(part, value)
                    for kind, name in all_faults(app):
                        told = CONDITIONS[kind](app, turned, name)
                        known = ALL_REASONS[kind](app, turned, name)
                        self.assertEqual(told is None, known == [])
                        self.assertTrue(told is None or told in known)

    def test_no_session_has_a_fault_without_a_reason(self):
        seen = 0
        for source in sources(250, start=2000):
            app, rule = random_app(source), random_rule(source)
            possible = [fault for fault in all_faults(app) if CONDITIONS[fault[0]](app, rule, fault[1]) is not None]
            last = begin(app, rule)
            for _ in range(40):
                last = step(app, rule, last.standing, random_deed(source, app, last.standing))
                for fault in faults(app, rule, last):
                    self.assertIn(fault, possible)
                    seen += 1
        self.assertGreater(seen, 100)

    def test_reasons_of_another_kind_are_new_values(self):
        app = full_app()
        first = {fault: CONDITIONS[fault[0]](app, Rule(words=False), fault[1]) for fault in all_faults(app)}
        again = {fault: CONDITIONS[fault[0]](app, Rule(words=False), fault[1]) for fault in all_faults(app)}
        self.assertEqual(first, again)


class LargestTest(unittest.TestCase):
    def app(self, expr):
        """One of the largest apps, with this expression over x, y and z wherever one can stand."""
        inputs = tuple((slot, "yes") for slot in ("x", "y", "z"))
        modules = (("m", 2), ("n", 2))
        made = tuple((slot, "m", (expr, expr)) for slot in ("a", "b", "c"))
        late = tuple((slot, "n", (expr, expr)) for slot in ("d", "e", "f"))
        rows = ("r", "no", "g", "m", (("pair", (YNM,) * 3, expr, R),) * 2)
        pages = tuple((name, ("d", "e", "f", "g")[at:], ("m", (expr, expr))) for at, name in enumerate(("home", "view", "last")))
        handlers = tuple((name, "n", "last", "x", (expr, expr), ("a", "b"), when) for name, when in (("h", "now"), ("k", "later")))
        return App(YNM, modules, inputs, pages, made=made, late=late, rows=rows, handlers=handlers, form=("d", "e"))

    def test_a_short_time(self):
        tables = (("yes", "no", "may"), ("no", "yes", "no"), ("may", "may", "yes"))
        inner = ("pair", tables, X, Y)
        some = ("pair", tables, inner, ("slot", "z"))
        never = ("pair", (("no",) * 3,) * 3, inner, ("slot", "z"))
        rules = (Rule(words=False, code=False, ask="needed"), Rule(), Rule(ask="needed", newest=True, one="one"),
                 Rule(holds="listed", timers="held", swap="keep", turn="loaded", sending="wait", saves="values"),
                 Rule(again="match", keep="clear", saves="records", holds="listed", sending="go"))
        for expr in (some, never):
            app = self.app(expr)
            self.assertEqual(len(states(app)), 108)
            started = time.process_time()
            for rule in rules:
                for kind, name in all_faults(app):
                    CONDITIONS[kind](app, rule, name)
            self.assertLess(time.process_time() - started, 10)
            first, last = states(app)[0], states(app)[-1]
            held_walk(app, rules[3], "h", first, last)
            self.assertEqual(lets(app, "home", *first), expr == some)


if __name__ == "__main__":
    unittest.main()
