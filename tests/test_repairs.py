"""[42] to [46]: sets of flags, turned parts, changes, and what heals."""

import itertools
import unittest

from onesession.apps import App
from onesession.errors import InvalidApp, InvalidChange, InvalidKind, InvalidParts, InvalidRule
from onesession.judging import KINDS, all_faults, faults
from onesession.repairs import heals, is_change, least_compared, least_turned, with_changes
from onesession.rules import PARTS, Rule
from onesession.running import begin, step
from onesession.verdict import verdict
from onesession.witness import witness
from tests.samples import LARGE, NOT_X, STRANGE, X, Y, YN, YNM, copied, full_app, interface_app, random_app, random_deed
from tests.samples import random_rule, sources
from tests.test_conditions import form_app, handler_app, one_late, small_app
from tests.test_verdict import kept_of, parts_spoiled

FLAGS = ("words", "code", "newest")
NAMES = [part for part, _ in PARTS]
POOL = (None, True, False, 0, 1, "x", "d", "zzz", "home", "yes", (), [], {}, ("x",), ["x"], ("d", "d"), (X,), ("slot", "q"))


def rule_with(rule, **parts):
    """The rule with other values in some parts."""
    return Rule(**{**dict(zip(NAMES, rule.choice)), **parts})


def parts_of(app):
    """The arguments of an app."""
    return {"words": app.words, "modules": app.modules, "inputs": app.inputs, "pages": app.pages, "made": app.made,
            "late": app.late, "rows": app.rows, "handlers": app.handlers, "form": app.form}


def changed_by_hand(app, rule, change):
    """The app and the rule with a change, or None if it is none; written from the document."""
    if not isinstance(change, tuple) or len(change) != 3:
        return None
    head, name, worth = change
    parts = parts_of(app)
    places = {"exprs": (("made", 2), ("late", 2)), "needs": (("pages", 1),), "guard": (("pages", 2),),
              "listed": (("handlers", 5),), "when": (("handlers", 6),)}
    try:
        if head == "rule":
            values = dict(PARTS)[name] if isinstance(name, str) and name in NAMES else ()
            if not [value for value in values if value == worth and type(value) is type(worth)]:
                return None
            return app, rule_with(rule, **{name: worth})
        if not isinstance(head, str) or head not in places:
            return None
        for part, at in places[head]:
            for number, item in enumerate(parts[part]):
                if item[0] == name:
                    new = item[:at] + (worth,) + item[at + 1:]
                    parts[part] = parts[part][:number] + (new,) + parts[part][number + 1:]
                    return App(**parts), rule
        if head == "exprs" and app.rows is not None and app.rows[2] == name:
            return App(**{**parts, "rows": app.rows[:4] + (worth,)}), rule
    except (InvalidApp, InvalidRule):
        pass
    return None


def random_change(source, app, rule):
    """A random change of an app and a rule, which may be one that changes nothing."""
    other = [app, random_app(source), small_app(source)]
    found = [("rule", part, source.choice(values)) for part, values in PARTS]
    for from_app in other:
        found += [("exprs", item[0], item[2]) for item in from_app.made + from_app.late]
        found += [("exprs", from_app.rows[2], from_app.rows[4])] if from_app.rows is not None else []
        found += [("needs", page[0], page[1]) for page in from_app.pages]
        found += [("guard", page[0], page[2]) for page in from_app.pages]
        found += [("listed", item[0], item[5]) for item in from_app.handlers]
        found += [("when", item[0], item[6]) for item in from_app.handlers]
    found += [("needs", page, ()) for page in app.page_names] + [("guard", page, None) for page in app.page_names]
    found += [("listed", name, ()) for name in app.handler_names]
    found = [change for change in found if changed_by_hand(app, rule, change) is not None]
    kinds = sorted({change[0] for change in found})
    kind = "rule" if source.random() < 0.4 else source.choice(kinds)
    return source.choice([change for change in found if change[0] == kind])


class LeastComparedTest(unittest.TestCase):
    def expected(self, app, rule):
        enough = [flags for size in range(4) for flags in itertools.combinations(FLAGS, size)
                  if verdict(app, rule_with(rule, **{flag: flag in flags for flag in FLAGS})) == []]
        return [flags for flags in enough if not [other for other in enough if set(other) < set(flags)]]

    def test_by_hand(self):
        app = interface_app()
        for rule in (Rule(), Rule(newest=True), Rule(words=False), Rule(words=False, code=False, newest=True)):
            self.assertEqual(least_compared(app, rule), [("newest",), ("words", "code")])
            self.assertEqual(least_compared(app, rule_with(rule, again="match")), [()])
            self.assertEqual(least_compared(app, rule_with(rule, saves="values")), [])
        for rule in (Rule(), Rule(newest=True), Rule(words=False)):
            self.assertEqual(least_compared(one_late(), rule), [("words",), ("newest",)])
        two = one_late(editions=(("word", "yes"), ("word", "no")))
        self.assertEqual(least_compared(two, Rule()), [("code",), ("newest",)])

    def test_a_flag_can_do_harm(self):
        # What is dropped on the way to another page is not asked for again.
        rule = Rule(ask="needed")
        self.assertEqual(least_compared(one_late(), rule), [("newest",)])
        self.assertNotEqual(verdict(one_late(), rule_with(rule, newest=True, words=True)), [])

    def test_drawn_apps(self):
        seen = set()
        for source in sources(250):
            app = source.choice((small_app, random_app))(source)
            rule = random_rule(source, saves="nothing", turn=source.choice(("once", "loaded")), holds="now", timers="now",
                               sending=source.choice(("bar", "bar", "go")))
            kept = kept_of(app, rule)
            told = least_compared(app, rule)
            self.assertIs(type(told), list)
            self.assertEqual(told, self.expected(app, rule))
            seen |= {tuple(len(flags) for flags in told)}
            # Beside words and code, newest is no matter, so no least set has all three flags.
            self.assertNotIn(FLAGS, told)
            self.assertEqual(kept_of(app, rule), kept)
            told.clear()
            self.assertEqual(least_compared(app, rule), self.expected(app, rule))
        self.assertLessEqual({(), (0,), (1,), (1, 1), (1, 2)}, seen)


class LeastTurnedTest(unittest.TestCase):
    def expected(self, app, rule, parts):
        pairs = [(part, value) for part, values in PARTS if part in parts for value in values
                 if value != dict(zip(NAMES, rule.choice))[part]]
        for size in (0, 1, 2):
            ways = [way for way in itertools.combinations(pairs, size) if len(dict(way)) == size]
            found = [way for way in ways if verdict(app, rule_with(rule, **dict(way))) == []]
            if found:
                return found
        return []

    def test_by_hand(self):
        app, rule = interface_app(), Rule(words=False)
        expected = [(("again", "match"),), (("one", "one"),), (("words", True),), (("newest", True),)]
        self.assertEqual(least_turned(app, rule, NAMES), expected)
        self.assertEqual(least_turned(app, rule, tuple(reversed(NAMES))), expected)
        self.assertEqual(least_turned(app, rule, ["newest", "again"]), [(("again", "match"),), (("newest", True),)])
        self.assertEqual(least_turned(app, rule, ("code",)), [])
        self.assertEqual(least_turned(app, rule, []), [])
        self.assertEqual(least_turned(app, rule, ()), [])
        for parts in ([], (), NAMES, ["saves"]):
            self.assertEqual(least_turned(app, Rule(), parts), [()])

    def test_two_parts(self):
        app, rule = one_late(), Rule(words=False, saves="values")
        told = least_turned(app, rule, ["saves", "words", "again"])
        self.assertEqual(told, [(("again", "match"), ("saves", "nothing")), (("again", "match"), ("saves", "records")),
                                (("words", True), ("saves", "nothing"))])
        self.assertEqual(least_turned(app, rule, ["words", "again"]), [])
        # Three parts would have to be turned.
        three = form_app(form=("a",), made=(("a", "m", (X,)),))
        self.assertEqual(least_turned(three, Rule(words=False, saves="values", sending="go"), ["words", "saves", "sending"]), [])

    def test_a_part_with_several_other_values(self):
        app, rule = form_app(form=("a",), made=(("a", "m", (X,)),)), Rule(sending="go")
        self.assertEqual(least_turned(app, rule, ("sending",)), [(("sending", "bar"),), (("sending", "wait"),)])
        rule = Rule(saves="records", ask="needed", one="one")
        self.assertEqual(least_turned(one_late(other=("d",)), rule, ("saves", "keep")), [(("saves", "nothing"),)])

    def test_drawn_apps(self):
        seen = set()
        for source in sources(120):
            app = source.choice((small_app, random_app))(source)
            rule = random_rule(source)
            kept = kept_of(app, rule)
            for parts in (NAMES, source.sample(NAMES, source.randint(1, 14))):
                before = copied(parts)
                told = least_turned(app, rule, source.choice((list, tuple))(parts))
                self.assertIs(type(told), list)
                self.assertEqual(told, self.expected(app, rule, parts))
                self.assertEqual(parts, before)
                seen.add(len(told[0]) if told else None)
            self.assertEqual(kept_of(app, rule), kept)
        self.assertEqual(seen, {None, 0, 1, 2})

    def test_a_new_list_each_time(self):
        app, rule = interface_app(), Rule(words=False)
        least_turned(app, rule, NAMES).clear()
        self.assertEqual(len(least_turned(app, rule, NAMES)), 4)

    def test_wrong_parts(self):
        app, rule = interface_app(), Rule(words=False)
        for value in (*STRANGE, *LARGE, "again ", "Again", ("again",), ["again"], "change", "part"):
            for parts in ([value], ["words", value, None], ("key", "words", value, value)):
                for kind in (list, tuple):
                    with self.assertRaises(InvalidParts) as caught:
                        least_turned(app, rule, kind(parts))
                    self.assertEqual(caught.exception.index, len(parts) - (2 if len(parts) > 2 else 1) if len(parts) != 3 else 1)
        for parts, index in ((["words", "words"], 1), (["key", "words", "code", "key"], 3), (NAMES + ["again"], 15),
                             (["key", "key", "zzz"], 1), (["zzz", "key", "key"], 0)):
            with self.assertRaises(InvalidParts) as caught:
                least_turned(app, Rule(), parts)
            self.assertEqual(caught.exception.index, index)


class IsChangeTest(unittest.TestCase):
    RIGHT = (
        ("rule", "words", False), ("rule", "words", True), ("rule", "sending", "go"), ("rule", "again", "change"),
        ("exprs", "a", (("word", "no"),)), ("exprs", "b", (X, ("slot", "a"))), ("exprs", "d", (("slot", "b"), Y)),
        ("exprs", "e", (("word", "yes"),)), ("exprs", "g", (("slot", "r"), ("slot", "b"))), ("needs", "home", ()),
        ("needs", "home", ("g", "e", "d")), ("needs", "view", ("d", "g")), ("guard", "home", None),
        ("guard", "home", ("n", (X, Y))), ("guard", "view", ("m", (X,))), ("listed", "h", ()),
        ("listed", "h", ("b", "x", "a", "y")), ("when", "h", "now"), ("when", "k", "now"),
    )
    WRONG = (
        ("rule", "words", 1), ("rule", "words", 0), ("rule", "words", "yes"), ("rule", "zzz", "go"), ("rule", "sending", None),
        ("rule", ["words"], True), ("rule", "words"), ("rule", "words", True, True), ["rule", "words", True],
        # An expression that reads a late slot or a later made one, or its own; too few or too many expressions.
        ("exprs", "a", (("slot", "d"),)), ("exprs", "a", (("slot", "b"),)), ("exprs", "a", (("slot", "a"),)),
        ("exprs", "d", (X,)), ("exprs", "e", (X, X)), ("exprs", "a", ()), ("exprs", "a", [X]), ("exprs", "d", (("slot", "r"), X)),
        ("exprs", "g", (("slot", "g"), X)), ("exprs", "x", (X,)), ("exprs", "r", (X, X)), ("exprs", "zzz", (X,)),
        ("exprs", "h", (X,)), ("exprs", "a", None), ("exprs", "a", X), ("exprs", "a", (["word", "no"],)),
        # Needs that are no late slots, or stand twice.
        ("needs", "home", ("x",)), ("needs", "home", ("a",)), ("needs", "home", ("d", "d")), ("needs", "home", ["d"]),
        ("needs", "home", None), ("needs", "home", "d"), ("needs", "home", ("r",)), ("needs", "zzz", ()), ("needs", "h", ()),
        ("guard", "home", ()), ("guard", "home", ("m", (X, X))), ("guard", "home", ("n", (X,))), ("guard", "home", ["m", (X,)]),
        ("guard", "home", ("zzz", (X,))), ("guard", "home", ("m", (("slot", "d"),))), ("guard", "h", None), ("guard", None, None),
        ("listed", "h", ("d",)), ("listed", "h", ("x", "x")), ("listed", "h", ["x"]), ("listed", "h", None),
        ("listed", "home", ()), ("when", "h", "soon"), ("when", "h", None), ("when", "home", "now"), ("when", "zzz", "now"),
        ("form", "d", ()), ("words", "yes", "no"), ("late", "d", (X, X)), ("", "", ""), (None, None, None), ("exprs",), (),
        ((), (), ()), ([], [], []),
    )

    def test_right_and_wrong_ones(self):
        app, rule = full_app(), Rule()
        kept = kept_of(app, rule)
        for change in self.RIGHT:
            self.assertIs(is_change(app, rule, change), True, change)
        for change in (*self.WRONG, *STRANGE, *LARGE):
            self.assertIs(is_change(app, rule, change), False, change)
        self.assertEqual(kept_of(app, rule), kept)

    def test_one_part_spoiled(self):
        app, rule = full_app(), Rule(saves="values")
        for change in self.RIGHT:
            for value in parts_spoiled(change, POOL + LARGE[:4]):
                before = copied(value)
                expected = changed_by_hand(app, rule, value) is not None
                self.assertIs(is_change(app, rule, value), expected, value)
                self.assertEqual(repr(value), repr(before))

    def test_an_app_without_these_parts(self):
        app = App(YN, (("m", 1),), (("x", "yes"),), (("home", (), None),))
        for change in self.RIGHT:
            expected = change[0] == "rule" or change in (("needs", "home", ()), ("guard", "home", None))
            self.assertIs(is_change(app, Rule(), change), expected, change)


class WithChangesTest(unittest.TestCase):
    def test_each_change(self):
        app, rule = full_app(), Rule()
        for change in IsChangeTest.RIGHT:
            for changes in ((change,), [change]):
                told = with_changes(app, rule, changes)
                self.assertIs(type(told), tuple)
                expected = changed_by_hand(app, rule, change)
                self.assertTrue(told[0] == expected[0] and told[1] == expected[1], change)
        told = with_changes(app, rule, [])
        self.assertTrue(told[0] == app and told[1] == rule and type(told) is tuple)

    def test_several_changes_in_any_order(self):
        for source in sources(80):
            app, rule = random_app(source), random_rule(source)
            kept = kept_of(app, rule)
            changes = []
            for _ in range(5):
                change = random_change(source, app, rule)
                if change[:2] not in [other[:2] for other in changes]:
                    changes.append(change)
            expected = (app, rule)
            for change in changes:
                expected = changed_by_hand(*expected, change)
            for _ in range(3):
                source.shuffle(changes)
                before = copied(changes)
                told = with_changes(app, rule, changes)
                self.assertTrue(told[0] == expected[0] and told[1] == expected[1])
                self.assertEqual(changes, before)
            self.assertEqual(kept_of(app, rule), kept)

    def test_a_late_slot_and_a_made_slot_of_which_it_reads(self):
        app = full_app()
        told, _ = with_changes(app, Rule(), [("exprs", "b", (X, X)), ("exprs", "a", (Y,)), ("needs", "view", ())])
        self.assertEqual(told.made, (("a", "m", (Y,)), ("b", "n", (X, X))))
        self.assertEqual(told.pages[1], ("view", (), ("m", (X,))))
        self.assertEqual((told.late, told.rows), (app.late, app.rows))

    def test_wrong_items(self):
        app, rule = full_app(), Rule()
        right = [("when", "h", "later"), ("rule", "key", "place"), ("needs", "home", ())]
        for value in (*IsChangeTest.WRONG, *STRANGE, *LARGE, ("rule", "key", "id"), right[1], ("needs", "home", ("d",))):
            for kind in (list, tuple):
                with self.assertRaises(InvalidChange) as caught:
                    with_changes(app, rule, kind(right + [value, None]))
                self.assertEqual(caught.exception.index, 3)
        for changes, index in ((right[:1] * 2, 1), ([None] + right, 0), ([right[0], ("when", "h", "now"), None], 1)):
            with self.assertRaises(InvalidChange) as caught:
                with_changes(app, rule, changes)
            self.assertEqual(caught.exception.index, index)


class HealsTest(unittest.TestCase):
    def expected(self, app, rule, kind, candidates):
        elder = verdict(app, rule)
        for size in (0, 1, 2):
            found = []
            for changes in itertools.combinations(candidates, size):
                if len({change[:2] for change in changes}) == size:
                    told = verdict(*with_changes(app, rule, changes))
                    if not [fault for fault in told if fault[0] == kind or fault not in elder]:
                        found.append(changes)
            if found:
                return found
        return []

    def test_by_hand(self):
        app, rule = interface_app(), Rule(words=False)
        again, words, code = ("rule", "again", "match"), ("rule", "words", True), ("rule", "code", False)
        same = ("exprs", "d", (("word", "yes"), ("word", "yes")))
        self.assertEqual(heals(app, rule, "unsettled", [code, words, again, same]), [(words,), (again,), (same,)])
        self.assertEqual(heals(app, rule, "unsettled", (same, again)), [(same,), (again,)])
        self.assertEqual(heals(app, rule, "unsettled", [code]), [])
        self.assertEqual(heals(app, rule, "unsettled", []), [])
        for kind in ("elder", "barred", "sent"):
            for candidates in ([], (), [code], (words, same)):
                self.assertEqual(heals(app, rule, kind, candidates), [()])

    def test_sets_of_two(self):
        app, rule = one_late(), Rule(words=False, saves="values")
        words, saves, records = ("rule", "words", True), ("rule", "saves", "nothing"), ("rule", "saves", "records")
        again = ("rule", "again", "match")
        told = heals(app, rule, "unsettled", [saves, words, records, again])
        self.assertEqual(told, [(saves, words), (saves, again), (records, again)])
        # Two changes with the same aim heal nothing, although one of them would be enough beside another one.
        self.assertEqual(heals(app, rule, "unsettled", [saves, records]), [])
        self.assertEqual(heals(app, rule, "unsettled", [words, again]), [])

    def test_a_set_that_brings_another_fault(self):
        app = form_app(form=("a",), made=(("a", "m", (X,)),))
        rule = Rule(words=False)
        self.assertEqual(verdict(app, rule), [("unsettled", "d")])
        go, words = ("rule", "sending", "go"), ("rule", "words", True)
        self.assertEqual(heals(app, rule, "unsettled", [go, words]), [(words,)])
        # If both pages need d, no page is left for another one, but then the way to the second page takes a while.
        app, rule = one_late(other_guard=X), Rule(ask="needed", turn="loaded")
        self.assertEqual(verdict(app, rule), [("unsettled", "d")])
        needs, land = ("needs", "view", ("d",)), ("rule", "guard", "land")
        self.assertEqual(verdict(*with_changes(app, rule, [needs])), [("barred", "view")])
        self.assertEqual(heals(app, rule, "unsettled", [needs]), [])
        self.assertEqual(heals(app, rule, "unsettled", [needs, land]), [(needs, land)])
        self.assertEqual(heals(app, rule, "unsettled", [land, needs]), [(land, needs)])
        # A handler that heals itself at the cost of a page.
        pages = (("home", ("d",), None), ("view", ("d",), ("m", (X,))))
        handlers = (("h", "m", "view", "x", (NOT_X,), (), "now"),)
        app = App(YN, (("m", 1),), (("x", "yes"),), pages, late=(("d", "m", (X,)),), handlers=handlers)
        rule = Rule(holds="listed", saves="records")
        self.assertEqual(verdict(app, rule), [("unsettled", "d"), ("elder", "h")])
        candidates = [("rule", "turn", "loaded"), ("guard", "view", ("m", (("word", "no"),))), ("listed", "h", ("x",))]
        self.assertEqual(heals(app, rule, "elder", candidates), [(candidates[1],), (candidates[2],)])
        worse = [("rule", "holds", "now"), ("rule", "turn", "loaded"), ("rule", "saves", "nothing")]
        self.assertEqual(heals(app, rule, "unsettled", worse), [(worse[2],)])

    def test_drawn_apps(self):
        seen = set()
        for source in sources(120):
            app = source.choice((small_app, random_app))(source)
            rule = random_rule(source)
            if source.random() < 0.4:
                rule = rule_with(rule, again="change", one="many", saves="values", keep="keep", newest=False, words=False)
            kept = kept_of(app, rule)
            candidates = []
            while len(candidates) < source.randint(1, 6):
                change = random_change(source, app, rule)
                if change not in candidates:
                    candidates.append(change)
            before = copied(candidates)
            for kind in KINDS:
                told = heals(app, rule, kind, source.choice((list, tuple))(candidates))
                self.assertIs(type(told), list)
                self.assertEqual(told, self.expected(app, rule, kind, candidates))
                seen.add(len(told[0]) if told else None)
            self.assertEqual((kept_of(app, rule), candidates), (kept, before))
        self.assertEqual(seen, {None, 0, 1, 2})

    def test_a_new_list_each_time(self):
        app, rule = interface_app(), Rule(words=False)
        heals(app, rule, "unsettled", [("rule", "words", True)]).clear()
        self.assertEqual(heals(app, rule, "unsettled", [("rule", "words", True)]), [(("rule", "words", True),)])

    def test_wrong_kinds_come_first(self):
        for kind in (*STRANGE, *LARGE, "unsettle", "apart", ("sent",), ["sent"]):
            for candidates in ([], [None], [("rule", "words", True)] * 7):
                with self.assertRaises(InvalidKind) as caught:
                    heals(interface_app(), Rule(), kind, candidates)
                self.assertIs(caught.exception.kind, kind)

    def test_wrong_candidates(self):
        app, rule = full_app(), Rule()
        six = [("rule", "again", "match"), ("rule", "one", "one"), ("rule", "keep", "clear"), ("needs", "home", ()),
               ("when", "h", "later"), ("guard", "view", None)]
        self.assertEqual(heals(app, rule, "elder", six), [()])
        cases = [(six + [("rule", "key", "place")], 6), (six + [None], 6), (six[:3] + six[:1], 3), (six + six, 6),
                 ([six[0], six[0], None], 1), ([None, six[0], six[0]], 0)]
        cases += [(six[:2] + [value] + six[2:], 2) for value in (*IsChangeTest.WRONG, *STRANGE, *LARGE)]
        for candidates, index in cases:
            for kind in (list, tuple):
                for name in KINDS:
                    with self.assertRaises(InvalidChange) as caught:
                        heals(app, rule, name, kind(candidates))
                    self.assertEqual(caught.exception.index, index)
        # The same aim with another value is no error.
        self.assertEqual(heals(app, rule, "elder", [("when", "h", "now"), ("when", "h", "later")]), [()])


class WhatFollowsTest(unittest.TestCase):
    """[46]."""

    def test_what_is_healed_has_no_such_fault(self):
        seen = 0
        for source in sources(200):
            app = source.choice((small_app, small_app, small_app, random_app))(source)
            rule = random_rule(source)
            elder = verdict(app, rule)
            if not elder:
                continue
            kind = source.choice(elder)[0]
            candidates = []
            for _ in range(20):
                change = random_change(source, app, rule)
                if change not in candidates and len(candidates) < 6:
                    candidates.append(change)
            for changes in heals(app, rule, kind, candidates):
                seen += 1
                new_app, new_rule = with_changes(app, rule, changes)
                self.assertEqual(len(all_faults(new_app)), len(all_faults(app)))
                for old_kind, name in elder:
                    last = begin(new_app, new_rule)
                    for deed in witness(app, rule, old_kind, name):
                        last = step(new_app, new_rule, last.standing, deed)
                        self.assert_healed(new_app, new_rule, last, kind, elder)
                last = begin(new_app, new_rule)
                for _ in range(40):
                    last = step(new_app, new_rule, last.standing, random_deed(source, app, last.standing))
                    self.assert_healed(new_app, new_rule, last, kind, elder)
        self.assertGreater(seen, 15)

    def assert_healed(self, app, rule, last, kind, elder):
        for fault in faults(app, rule, last):
            self.assertNotEqual(fault[0], kind)
            self.assertIn(fault, elder)

    def test_by_hand(self):
        app, rule = handler_app(), Rule(holds="listed")
        self.assertEqual(heals(app, rule, "elder", [("listed", "h", ("x",))]), [(("listed", "h", ("x",)),)])
        three = App(YNM, (("m", 1),), (("x", "yes"),), (("home", (), None),), late=(("d", "m", (X,)),))
        self.assertEqual(heals(three, Rule(words=False), "unsettled", [("exprs", "d", (("word", "may"),))]),
                         [(("exprs", "d", (("word", "may"),)),)])


if __name__ == "__main__":
    unittest.main()
