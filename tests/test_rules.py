"""[8] Rules."""

import inspect
import itertools
import unittest

from onesession.errors import InvalidRule, SessionError
from onesession.rules import PARTS, Rule
from tests.samples import STRANGE, copied, random_rule, sources

EXPECTED = (
    ("again", ("change", "match")), ("one", ("many", "one")), ("words", (False, True)), ("code", (False, True)),
    ("newest", (False, True)), ("keep", ("keep", "clear")), ("key", ("id", "place")), ("ask", ("eager", "needed")),
    ("turn", ("once", "loaded")), ("guard", ("begin", "land")), ("holds", ("listed", "now")),
    ("swap", ("renew", "keep")), ("timers", ("held", "now")), ("sending", ("bar", "wait", "go")),
    ("saves", ("nothing", "records", "values")),
)
DEFAULTS = {
    "again": "change", "one": "many", "words": True, "code": True, "newest": False, "keep": "keep", "key": "id",
    "ask": "eager", "turn": "once", "guard": "begin", "holds": "now", "swap": "renew", "timers": "now",
    "sending": "bar", "saves": "nothing",
}
NAMES = tuple(DEFAULTS)
EVERY_VALUE = tuple(dict.fromkeys(value for _, values in EXPECTED for value in values))


def is_same(one, two):
    """Tell whether two values are equal and of the same kind, since 1 is equal to True."""
    return type(one) is type(two) and one == two


def wrong_values(values):
    """Values that a part with these values cannot have."""
    found = [value for value in EVERY_VALUE if not any(is_same(value, known) for known in values)]
    found += list(STRANGE) + [1, 0, None, [], {}, list(values), tuple(values), [values[0]], "Change", "once ", 2]
    found += [10 ** 3999, "x" * 4000, [[["now"]]]]
    return [value for value in found if not any(is_same(value, known) for known in values)]


class RuleTest(unittest.TestCase):
    def test_the_parts(self):
        self.assertEqual(PARTS, EXPECTED)
        for _, values in PARTS:
            self.assertIs(type(values), tuple)
        for part, values in PARTS:
            for value in values:
                self.assertIs(type(value), bool if part in ("words", "code", "newest") else str)

    def test_the_defaults(self):
        rule = Rule()
        for part, value in DEFAULTS.items():
            self.assertTrue(is_same(getattr(rule, part), value), part)
        self.assertEqual(rule.choice, tuple(DEFAULTS.values()))
        found = inspect.getfullargspec(Rule.__init__)
        self.assertEqual((found.args, found.kwonlyargs, found.kwonlydefaults), (["self"], list(NAMES), DEFAULTS))

    def test_each_part_with_each_of_its_values(self):
        for at, (part, values) in enumerate(EXPECTED):
            for value in values:
                rule = Rule(**{part: value})
                expected = {**DEFAULTS, part: value}
                for name in NAMES:
                    self.assertTrue(is_same(getattr(rule, name), expected[name]))
                self.assertEqual(rule.choice, tuple(expected.values()))
                self.assertIs(rule.choice[at], value)

    def test_a_wrong_value_is_refused_with_the_part(self):
        for part, values in EXPECTED:
            for value in wrong_values(values):
                before = copied(value)
                with self.assertRaises(InvalidRule, msg=(part, value)) as caught:
                    Rule(**{part: value})
                self.assertEqual(caught.exception.part, part)
                self.assertEqual(value, before)
        self.assertRaises(SessionError, Rule, again="always")

    def test_of_several_wrong_parts_the_first_is_told(self):
        for first, second in itertools.combinations(NAMES, 2):
            for one, two in ((None, 7), ([], {}), (1, 0)):
                with self.assertRaises(InvalidRule) as caught:
                    Rule(**{second: two, first: one})
                self.assertEqual(caught.exception.part, first)
        with self.assertRaises(InvalidRule) as caught:
            Rule(**{name: None for name in NAMES})
        self.assertEqual(caught.exception.part, "again")

    def test_parts_are_passed_by_keyword_alone(self):
        self.assertRaises(TypeError, Rule, "change")


class TurnedTest(unittest.TestCase):
    def test_each_part_and_value(self):
        rules = [Rule()] + [random_rule(source) for source in sources(10)]
        for rule in rules:
            before = rule.choice
            for at, (part, values) in enumerate(EXPECTED):
                for value in values:
                    other = rule.turned(part, value)
                    self.assertEqual(other.choice, before[:at] + (value,) + before[at + 1:])
                    self.assertIs(getattr(other, part), value)
                    self.assertIs(type(other), Rule)
                    self.assertEqual(rule.choice, before)
                    self.assertEqual(other.turned(part, before[at]), rule)

    def test_a_value_that_is_none_is_refused_with_the_part(self):
        rule = Rule(saves="values")
        for part, values in EXPECTED:
            for value in wrong_values(values):
                with self.assertRaises(InvalidRule) as caught:
                    rule.turned(part, value)
                self.assertEqual(caught.exception.part, part)
                self.assertEqual(rule, Rule(saves="values"))

    def test_what_is_no_part_is_refused_with_itself(self):
        rule = Rule()
        others = ("", "choice", "turned", "Again", "change", "listed", "PARTS", ("again",), ["again"], {"again": "match"})
        for part in STRANGE + others + (EXPECTED[0], "x" * 4000, 10 ** 3999):
            for value in ("change", True, None, [], {}):
                with self.assertRaises(InvalidRule) as caught:
                    rule.turned(part, value)
                self.assertIs(caught.exception.part, part)


class EqualityTest(unittest.TestCase):
    def test_equal_choices(self):
        self.assertTrue(Rule() == Rule())
        self.assertTrue(Rule() == Rule(**DEFAULTS))
        self.assertFalse(Rule() != Rule())
        for source in sources(20):
            rule = random_rule(source)
            self.assertTrue(rule == Rule(**dict(zip(NAMES, rule.choice))))

    def test_rules_that_differ_in_one_part(self):
        for part, values in EXPECTED:
            for one, two in itertools.combinations(values, 2):
                self.assertFalse(Rule(**{part: one}) == Rule(**{part: two}))
                self.assertTrue(Rule(**{part: one}) != Rule(**{part: two}))


if __name__ == "__main__":
    unittest.main()
