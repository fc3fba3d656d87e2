"""[38] and [40]: the verdict, the reasons for it, and what follows."""

import unittest

from onesession.apps import App
from onesession.errors import NoFault
from onesession.judging import KINDS, all_faults
from onesession.rules import PARTS, Rule
from onesession.standings import lets, outcome, handler_call, states
from onesession.verdict import is_reason, sound, verdict, why
from tests import reasons
from tests.samples import LARGE, NOT_X, STRANGE, X, Y, YN, YNM, copied, full_app, interface_app, random_app, random_rule
from tests.samples import sources, with_flag, with_list
from tests.test_conditions import form_app, handler_app, one_late, row_app, small_app

ALL_REASONS = {"unsettled": reasons.unsettled_reasons, "elder": reasons.elder_reasons,
               "barred": reasons.barred_reasons, "sent": reasons.sent_reasons}
HOME = (("home", (), None),)
# What stands in the place of a part of a reason to spoil it.
POOL = (None, True, False, 0, 1, 2, -1, "yes", "no", "may", "home", "view", "last", "zzz", "", "d", "late", "saved", "go",
        (), [], {}, ("yes",), (0,), (("yes",), (0,)), (("no",), (0,), None), (("yes",), (0,), "yes"))


def is_plain(value):
    """Tell whether there is no flag in a value."""
    if isinstance(value, tuple):
        return all(is_plain(item) for item in value)
    return not isinstance(value, bool)


def parts_spoiled(value, pool):
    """All values that are made from one by another value in the place of one of its parts, or by a part less or more."""
    if not isinstance(value, tuple):
        return []
    found = [value[:at] + value[at + 1:] for at in range(len(value))] + [value + (item,) for item in pool[:4]]
    for at, old in enumerate(value):
        found += [value[:at] + (item,) + value[at + 1:] for item in pool]
        found += [value[:at] + (item,) + value[at + 1:] for item in parts_spoiled(old, pool)]
    return found


def kept_of(app, rule):
    """What an app and a rule tell of themselves, to see later whether they have changed."""
    parts = (app.words, app.modules, app.inputs, app.pages, app.made, app.late, app.rows, app.handlers, app.form)
    return copied((parts, rule.choice))


class VerdictTest(unittest.TestCase):
    def test_a_fault_for_each_reason(self):
        seen = set()
        for source in sources(160):
            app = small_app(source)
            for _ in range(6):
                rule = random_rule(source)
                kept = kept_of(app, rule)
                expected = [(kind, name) for kind, name in all_faults(app) if ALL_REASONS[kind](app, rule, name)]
                told = verdict(app, rule)
                self.assertIs(type(told), list)
                self.assertEqual(told, expected)
                self.assertIs(sound(app, rule), expected == [])
                self.assertEqual(kept_of(app, rule), kept)
                seen |= {kind for kind, _ in told}
        self.assertEqual(seen, set(KINDS))

    def test_the_order_is_that_of_the_faults_of_a_step(self):
        full = {"modules": (("m", 2),), "late": (("e", "m", (X, NOT_X)), ("d", "m", (X, NOT_X))),
                "rows": ("r", "no", "c", "m", (X, X)),
                "handlers": (("z", "m", "view", "x", (X, NOT_X), (), "later"), ("b", "m", "home", "x", (X, X), (), "now")),
                "pages": (("view", ("d",), ("m", (X, X))), ("home", ("e",), ("m", (X, X)))), "form": ("e", "d")}
        app = App(YN, full.pop("modules"), (("x", "yes"),), full.pop("pages"), **full)
        rule = Rule(words=False, code=False, turn="loaded", ask="eager", holds="listed", timers="held", sending="go")
        expected = [("unsettled", "e"), ("unsettled", "d"), ("unsettled", "c"), ("elder", "z"), ("elder", "b"),
                    ("barred", "view"), ("barred", "home"), ("sent", "e"), ("sent", "d")]
        self.assertEqual(verdict(app, rule), expected)
        verdict(app, rule).clear()
        self.assertEqual(verdict(app, rule), expected)

    def test_the_example_of_the_interface(self):
        app = interface_app()
        self.assertEqual([verdict(app, Rule()), verdict(app, Rule(words=False))], [[], [("unsettled", "d")]])
        self.assertIs(sound(app, Rule()), True)
        self.assertIs(sound(app, Rule(words=False)), False)


class WhyTest(unittest.TestCase):
    def test_a_reason_for_each_fault_of_the_verdict(self):
        for source in sources(150):
            app = source.choice((small_app, random_app))(source)
            for _ in range(5):
                rule = random_rule(source)
                for kind, name in all_faults(app):
                    if (kind, name) in verdict(app, rule):
                        found = why(app, rule, kind, name)
                        self.assertIs(type(found), tuple)
                        self.assertIs(is_reason(app, rule, kind, name, found), True)
                    else:
                        self.assert_no_fault(app, rule, kind, name)

    def assert_no_fault(self, app, rule, kind, name):
        with self.assertRaises(NoFault) as caught:
            why(app, rule, kind, name)
        self.assertIs(caught.exception.kind, kind)
        self.assertIs(caught.exception.name, name)

    def test_values_that_are_no_fault(self):
        app, rule = full_app(), Rule(sending="go", words=False, saves="values")
        self.assertIn(("unsettled", "d"), verdict(app, rule))
        values = [*STRANGE, *LARGE, ["unsettled"], ("unsettled",), "unsettle", "barred", ["d"], ("d",), {"d": 1}, "d"]
        for value in values:
            if value != "d":
                self.assert_no_fault(app, rule, "unsettled", value)
            self.assert_no_fault(app, rule, value, "d")
            self.assert_no_fault(app, rule, value, value)

    def test_a_kind_with_a_name_of_another_kind(self):
        app = full_app()
        for rule in (Rule(sending="go", words=False, saves="values", timers="held", turn="loaded"), Rule()):
            told = verdict(app, rule)
            for kind in KINDS:
                for name in ("d", "e", "g", "h", "k", "home", "view", "last", "a", "b", "x", "r", "m", "yes"):
                    if (kind, name) in told:
                        why(app, rule, kind, name)
                    else:
                        self.assert_no_fault(app, rule, kind, name)


class IsReasonTest(unittest.TestCase):
    def assert_each(self, app, rule, kind, name, values, known):
        for value in values:
            before = copied(value)
            self.assertIs(is_reason(app, rule, kind, name, value), is_plain(value) and value in known, value)
            self.assertEqual(repr(value), repr(before))

    def test_all_reasons_and_all_that_are_spoiled(self):
        seen = {}
        for source in sources(160):
            app = small_app(source)
            for _ in range(3):
                rule = random_rule(source)
                for kind, name in all_faults(app):
                    known = ALL_REASONS[kind](app, rule, name)
                    self.assert_each(app, rule, kind, name, known, known)
                    for found in source.sample(known, min(2, len(known))):
                        head = (found[0], app.rows is not None, found[1] if kind == "sent" else None)
                        seen[head] = seen.get(head, 0) + 1
                        if seen[head] <= 6:
                            values = parts_spoiled(found, POOL) + with_flag(found) + with_list(found)
                            self.assert_each(app, rule, kind, name, values, known)
        for head in ("late", "return", "saved", "held", "way"):
            for rows in (True, False):
                self.assertGreater(seen[(head, rows, None)], 3, head)
        for how in ("late", "saved", "go"):
            self.assertGreater(sum(seen.get(("sent", rows, how), 0) for rows in (True, False)), 3, how)

    def test_reasons_for_other_faults_and_under_other_rules(self):
        for source in sources(60):
            app = small_app(source)
            known = {}
            rules = [random_rule(source) for _ in range(4)]
            for number, rule in enumerate(rules):
                for kind, name in all_faults(app):
                    known[(number, kind, name)] = ALL_REASONS[kind](app, rule, name)
            some = [source.choice(known[key]) for key in known if known[key]]
            for number, kind, name in known:
                self.assert_each(app, rules[number], kind, name, some, known[(number, kind, name)])

    def test_any_value_without_a_fault(self):
        values = [*STRANGE, *LARGE, ("late",), ("late", None, (), ()), ("sent", "go", (), ()), ("held", (), ()), ("way",)]
        for app, rule in ((interface_app(), Rule()), (full_app(), Rule(sending="go", saves="values", words=False))):
            found = why(full_app(), rule, "unsettled", "d") if rule.words is False else ("late", None, (), ())
            for value in values + [found]:
                for kind, name in [*all_faults(app), ("unsettled", "zzz"), ("elder", "d"), (None, None), ([], {}), ("", ())]:
                    known = ALL_REASONS[kind](app, rule, name) if (kind, name) in all_faults(app) else []
                    self.assertIs(is_reason(app, rule, kind, name, value), value in known)
            for kind in values:
                self.assertIs(is_reason(app, rule, kind, "d", found), False)
                self.assertIs(is_reason(app, rule, "unsettled", kind, found), False)

    def test_each_form_part_by_part(self):
        spot, other = (("yes",), (0, 0), None), (("no",), (0, 0), None)
        app, rule = one_late(), Rule(words=False)
        self.assertTrue(is_reason(app, rule, "unsettled", "d", ("late", None, spot, other)))
        for wrong in (["late", None, spot, other], ("late", None, spot, other, None), ("late", None, spot), ("LATE", None, spot, other),
                      ("late", "home", spot, other), ("late", None, spot, spot), ("late", None, list(spot), other),
                      ("late", None, (("yes",), (False, 0), None), other), ("late", None, spot, (("no",), (0, 0), "no")),
                      ("late", None, (["yes"], (0, 0), None), other), ("late", None, (("may",), (0, 0), None), other)):
            self.assertIs(is_reason(app, rule, "unsettled", "d", wrong), False, wrong)
        rows, needed = row_app(), Rule(words=False, ask="needed")
        first, second = (("yes",), (0,), "yes"), (("yes",), (0,), "no")
        self.assertTrue(is_reason(rows, needed, "unsettled", "g", ("late", "home", first, second)))
        for wrong in (("late", None, first, second), ("late", "view", first, second), ("late", "zzz", first, second),
                      ("late", "home", first, (("yes",), (0,), None)), ("late", "home", first, (("yes",), (0,)))):
            self.assertIs(is_reason(rows, needed, "unsettled", "g", wrong), False, wrong)

    def test_leaving(self):
        spot, other = (("yes",), (0, 0), None), (("no",), (0, 0), None)
        app = one_late(other_guard=X)
        once, loaded = Rule(ask="needed"), Rule(ask="needed", turn="loaded")
        right = ("return", "home", "view", spot, other, spot)
        self.assertIs(is_reason(app, once, "unsettled", "d", right), True)
        self.assertIs(is_reason(app, loaded, "unsettled", "d", right), False)
        self.assertIs(is_reason(app, loaded, "unsettled", "d", right[:5] + (None,)), True)
        self.assertIs(is_reason(app, once, "unsettled", "d", right[:5] + (None,)), False)
        # The guard of view does not let where x is no, and there is no other call there than in its spot.
        self.assertIs(is_reason(app, once, "unsettled", "d", ("return", "home", "view", other, spot, other)), False)
        one = Rule(ask="needed", one="one")
        self.assertIs(is_reason(app, one, "unsettled", "d", ("return", "home", "view", other, spot, spot)), True)
        self.assertIs(is_reason(app, once, "unsettled", "d", ("return", "home", "view", other, spot, spot)), False)

    def test_a_check_is_wanted_everywhere(self):
        spot, other = (("yes",), (0, 0), None), (("no",), (0, 0), None)
        found = ("return", "home", "view", spot, other, spot)
        self.assertIs(is_reason(one_late(), Rule(ask="needed"), "unsettled", "d", found), True)
        self.assertIs(is_reason(one_late(form=("d",)), Rule(ask="needed"), "unsettled", "d", found), False)

    def test_a_handler_of_a_page_that_is_never_come_to(self):
        found = ("held", (("yes", "yes"), (0, 0)), (("no", "yes"), (0, 0)))
        for when, rule in (("now", Rule(holds="listed")), ("later", Rule(timers="held"))):
            for guard, expected in ((X, True), (("word", "no"), False), (None, True)):
                app = handler_app(when=when, page="view", guard=guard)
                self.assertIs(is_reason(app, rule, "elder", "h", found), expected)

    def test_another_page(self):
        rule, clear = Rule(turn="loaded"), Rule(turn="loaded", keep="clear")
        letting, shut = (("yes",), (0, 0)), (("no",), (0, 0))
        found = ("way", None, letting, shut)
        self.assertIs(is_reason(one_late(home=(), other=("d",), other_guard=X), rule, "barred", "view", found), True)
        self.assertIs(is_reason(one_late(home=("d",), other=(), other_guard=X), rule, "barred", "view", found), False)
        # The first page is come to from another one, which does not need all that it needs, or where it may be cleared.
        first = ("way", "view", letting, shut)
        self.assertIs(is_reason(one_late(home_guard=X), rule, "barred", "home", first), True)
        self.assertIs(is_reason(one_late(home_guard=X, other=("d",)), rule, "barred", "home", first), False)
        self.assertIs(is_reason(one_late(home_guard=X, other=("d",)), clear, "barred", "home", first), True)
        same = one_late(("word", "no"), home_guard=X, other=("d",))
        self.assertIs(is_reason(same, clear, "barred", "home", first), False)
        never = one_late(home_guard=X, other_guard=("word", "no"))
        self.assertIs(is_reason(never, rule, "barred", "home", first), False)
        rows = row_app(pages=(("home", ("g",), ("m", (X,))), ("view", ("g",), None)))
        for other, expected in (("view", True), ("home", False), (None, False), ("zzz", False)):
            found = ("way", other, (("yes",), (0,)), (("no",), (0,)))
            self.assertIs(is_reason(rows, rule, "barred", "home", found), expected)
            self.assertIs(is_reason(rows, clear, "barred", "home", found), expected)

    def test_reasons_of_apps_that_are_a_little_different(self):
        for source in sources(60, start=900):
            app = small_app(source)
            parts = {"words": app.words, "modules": app.modules, "inputs": app.inputs, "pages": app.pages, "made": app.made,
                     "late": app.late, "rows": app.rows, "handlers": app.handlers, "form": app.form}
            others = [App(**{**parts, "form": None}), App(**{**parts, "pages": tuple((page[0], (), page[2]) for page in app.pages)}),
                      App(**{**parts, "pages": tuple((page[0], page[1], None) for page in app.pages)}),
                      App(**{**parts, "pages": tuple((page[0], app.late_slots, page[2]) for page in app.pages)})]
            rule = random_rule(source)
            for kind, name in all_faults(app):
                known = ALL_REASONS[kind](app, rule, name)
                for other in others:
                    if (kind, name) in all_faults(other):
                        found = ALL_REASONS[kind](other, rule, name)
                        self.assert_each(app, rule, kind, name, source.sample(found, min(12, len(found))), known)

    def test_places(self):
        app = form_app(form=("d", "a"), made=(("a", "m", (Y,)),))
        wrong, right = (("no", "yes"), (0,)), (("yes", "yes"), (0,))
        rule = Rule(words=False)
        self.assertIs(is_reason(app, rule, "sent", "d", ("sent", "late", wrong, (right, None))), True)
        for places in ((right,), (None, None), (right, right), [right, None], (right, None, None), (), (wrong, None), None):
            self.assertIs(is_reason(app, rule, "sent", "d", ("sent", "late", wrong, places)), False, places)
        # Where the made check is wrong as well, there is no place for it.
        both = (("no", "no"), (0,))
        self.assertIs(is_reason(app, rule, "sent", "d", ("sent", "late", both, (right, right))), False)
        self.assertIs(is_reason(app, Rule(saves="values"), "sent", "d", ("sent", "saved", both, (right, right))), False)
        self.assertIs(is_reason(app, rule, "sent", "d", ("sent", "late", both, (right, None))), False)
        self.assertIs(is_reason(app, rule, "sent", "d", ("sent", "saved", wrong, (right, None))), False)
        self.assertIs(is_reason(app, Rule(saves="values"), "sent", "d", ("sent", "saved", wrong, (right, None))), True)
        self.assertIs(is_reason(app, Rule(saves="values"), "sent", "a", ("sent", "saved", both, (right, right))), False)
        self.assertIs(is_reason(app, Rule(sending="go"), "sent", "a", ("sent", "go", both, ())), True)
        self.assertIs(is_reason(app, Rule(sending="go"), "sent", "a", ("sent", "go", both, [])), False)
        self.assertIs(is_reason(app, Rule(sending="go"), "sent", "a", ("sent", "go", right, ())), False)


class WhatFollowsTest(unittest.TestCase):
    """[40]."""

    def each(self, count, start=0, **fixed):
        for source in sources(count, start=start):
            app = source.choice((small_app, random_app))(source)
            for _ in range(4):
                yield source, app, random_rule(source, **fixed)

    def test_key_and_guard_do_not_matter(self):
        for _, app, rule in self.each(80):
            for part in ("key", "guard"):
                for value in dict(PARTS)[part]:
                    turned = verdict(app, rule.turned(part, value))
                    told = verdict(app, rule)
                    kinds = ("unsettled", "elder", "sent") + (("barred",) if part == "key" else ())
                    self.assertEqual([fault for fault in turned if fault[0] in kinds],
                                     [fault for fault in told if fault[0] in kinds])

    def test_under_match(self):
        seen = 0
        for _, app, rule in self.each(120, again="match"):
            if [fault for fault in verdict(app, rule) if fault[0] == "unsettled"]:
                self.assertEqual((rule.saves, rule.keep), ("values", "keep"))
                seen += 1
        self.assertGreater(seen, 5)

    def test_where_words_and_code_are_compared(self):
        for _, app, rule in self.each(120, words=True, code=True):
            for kind, name in verdict(app, rule):
                found = why(app, rule, kind, name)
                self.assertNotEqual(found[0], "late")
                self.assertNotEqual(found[:2], ("sent", "late"))

    def test_no_late_slot_stays_unsettled(self):
        for source, app, rule in self.each(120, saves="nothing", ask="eager"):
            part, value = source.choice((("again", "match"), ("one", "one"), ("newest", True)))
            told = verdict(app, rule.turned(part, value))
            self.assertEqual([fault for fault in told if fault[0] == "unsettled"], [])

    def test_under_clear(self):
        seen = 0
        for _, app, rule in self.each(120, keep="clear"):
            if [fault for fault in verdict(app, rule) if fault[0] == "sent"]:
                self.assertEqual(rule.sending, "go")
                seen += 1
        self.assertGreater(seen, 5)

    def test_handlers_and_guards_that_are_everywhere_the_same(self):
        seen = [0, 0]
        for _, app, rule in self.each(200):
            kinds = [kind for kind, _ in verdict(app, rule)]
            if all(len({outcome(app, name, handler_call(app, name, *state)) for state in states(app)}) == 1
                   for name in app.handler_names):
                self.assertNotIn("elder", kinds)
                seen[0] += 1
            if all(len({lets(app, name, *state) for state in states(app)}) == 1 for name in app.page_names):
                self.assertNotIn("barred", kinds)
                seen[1] += 1
        self.assertGreater(min(seen), 5)

    def test_bar_and_wait_are_not_worse_than_go(self):
        seen = 0
        for _, app, rule in self.each(300, sending="go"):
            if verdict(app, rule) == []:
                seen += 1
                for value in ("bar", "wait"):
                    self.assertEqual(verdict(app, rule.turned("sending", value)), [])
        self.assertGreater(seen, 20)

    def test_handlers_of_the_same_outcome_by_hand(self):
        same = handler_app(when="later", exprs=(("word", "no"),))
        self.assertEqual(verdict(same, Rule(timers="held", holds="listed")), [])
        other = handler_app(when="later", exprs=(("word", "no"), ("word", "yes")))
        self.assertEqual(verdict(other, Rule(timers="held")), [("elder", "h")])


if __name__ == "__main__":
    unittest.main()
