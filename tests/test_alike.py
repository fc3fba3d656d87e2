"""[51] and [52]: sessions side by side, and parts that do not matter."""

import unittest

from onesession.alike import alike, difference, idle_parts, pairing, plain_rule, rules_alike
from onesession.apps import App
from onesession.books import Book
from onesession.deeds import all_deeds
from onesession.errors import InvalidBound, InvalidRules, LimitExceeded, NotComparable
from onesession.rules import PARTS, Rule
from onesession.running import begin, step
from onesession.screens import screen
from tests.samples import LARGE, NOT_X, X, Y, YN, YNM, full_app, full_arguments, interface_app, random_app
from tests.samples import random_deed, random_rule, sources, tiny_app
from tests.test_books import WRONG_BOUNDS, within
from tests.test_conditions import small_app
from tests.test_verdict import kept_of

HOME = (("home", (), None),)


def deeds_beside(app, standings):
    """The deeds of the comparison at two standings, as [51] words it."""
    acts = max(len(standing[6]) for standing in standings)
    timers = max(len(standing[8]) for standing in standings)
    deeds = [deed for deed in all_deeds(app, standings[0]) if deed[0] not in ("land", "timer")]
    at = [deed[0] for deed in deeds].index("press") if app.handlers else 0
    while app.handlers and at < len(deeds) and deeds[at][0] == "press":
        at += 1
    fired = [("timer", number) for number in range(timers)]
    return [("land", number) for number in range(acts)] + deeds[:at] + fired + deeds[at:]


def beside(pairs, session):
    """The two Steps of a session that is done side by side."""
    steps = [begin(app, rule) for app, rule in pairs]
    for deed in session:
        steps = [step(app, rule, last.standing, deed) for (app, rule), last in zip(pairs, steps)]
    return steps


def shows(pairs, steps):
    """Tell whether two Steps show a difference."""
    screens = [screen(app, rule, last.standing) for (app, rule), last in zip(pairs, steps)]
    return screens[0] != screens[1] or (("sent",) in steps[0].events) != (("sent",) in steps[1].events)


def plain_search(pairs, acts, timers):
    """The least session that shows a difference, or None, and the pairs of standings kept ahead of it."""
    steps = beside(pairs, ())
    if shows(pairs, steps):
        return (), []
    kept = [tuple(last.standing for last in steps)]
    row = [()]
    while row:
        longer = []
        for session in row:
            before = beside(pairs, session)
            for deed in deeds_beside(pairs[0][0], [last.standing for last in before]):
                steps = [step(app, rule, last.standing, deed) for (app, rule), last in zip(pairs, before)]
                if not all(within(last.standing, acts, timers) for last in steps):
                    continue
                if shows(pairs, steps):
                    return session + (deed,), kept
                behind = tuple(last.standing for last in steps)
                if behind not in kept:
                    kept.append(behind)
                    longer.append(session + (deed,))
        row = longer
    return None, kept


def is_comparable(app, other):
    """Tell whether two apps can be compared."""
    def parts(each):
        return (each.words, each.modules, each.input_names, each.page_names, each.handler_names, each.rows is None, each.form is None)
    return parts(app) == parts(other)


def drawn_pairs(count, start=0, most=150):
    """Pairs of apps and rules that can be compared and have few standings, with bounds and a source."""
    made = 0
    for source in sources(100000, start=start):
        app, rule = tiny_app(source), random_rule(source)
        other, draw = app, source.random()
        while draw < 0.6 and (other is app or not is_comparable(app, other)):
            other = tiny_app(source)
        second = rule
        for _ in range(source.randint(0 if draw < 0.6 else 1, 2)):
            part, values = source.choice(PARTS)
            second = second.turned(part, source.choice(values))
        bounds = {"acts": source.choice((1, 1, 2)), "timers": source.choice((0, 1, 2))}
        try:
            difference((app, rule), (other, second), limit=most, **bounds)
        except LimitExceeded:
            continue
        yield source, ((app, rule), (other, second)), bounds
        made += 1
        if made == count:
            return


class DifferenceTest(unittest.TestCase):
    def test_beside_a_plain_search(self):
        seen = {}
        for _, pairs, bounds in drawn_pairs(160):
            kept = [kept_of(app, rule) for app, rule in pairs]
            expected, row = plain_search(pairs, **bounds)
            told = difference(*pairs, **bounds)
            self.assertEqual(told, expected)
            self.assertIs(type(told), type(expected))
            self.assertIs(alike(*pairs, **bounds), expected is None)
            self.assertEqual(repr(pairing(*pairs, **bounds)), repr(row if expected is None else None))
            size = None if told is None else min(len(told), 3)
            seen[size] = seen.get(size, 0) + 1
            self.assertEqual([kept_of(app, rule) for app, rule in pairs], kept)
            # Exactly as many kept pairs as the limit, and one less than there are.
            self.assertEqual(difference(*pairs, limit=max(1, len(row)), **bounds), expected)
            if len(row) > 1:
                for ask in (difference, alike, pairing):
                    with self.assertRaises(LimitExceeded) as caught:
                        ask(*pairs, limit=len(row) - 1, **bounds)
                    self.assertEqual(caught.exception.limit, len(row) - 1)
        self.assertEqual(set(seen), {None, 0, 1, 2, 3})
        self.assertGreater(min(seen.values()), 4)

    def test_the_two_beginnings_differ(self):
        first = App(YN, (("m", 1),), (("x", "yes"),), HOME)
        second = App(YN, (("m", 1),), (("x", "no"),), HOME)
        self.assertEqual(difference((first, Rule()), (second, Rule())), ())
        self.assertIs(alike((first, Rule()), (second, Rule())), False)
        self.assertIsNone(pairing((first, Rule()), (second, Rule())))
        self.assertEqual(difference((first, Rule()), (second, Rule()), limit=1), ())
        self.assertIsNone(difference((first, Rule()), (first, Rule(sending="go"))))
        self.assertEqual(pairing((first, Rule()), (first, Rule())),
                         [(standing, standing) for standing in Book(first, Rule()).standings()])

    def test_the_names_of_what_is_needed_are_on_the_screen(self):
        first = App(YN, (("m", 1),), (("x", "yes"),), (("home", ("d",), None),), late=(("d", "m", (X,)),))
        second = App(YN, (("m", 1),), (("x", "yes"),), (("home", ("e",), None),), late=(("e", "m", (X,)),))
        self.assertEqual(difference((first, Rule()), (second, Rule())), ())

    def test_sent_in_exactly_one_of_the_two(self):
        late, form = (("d", "m", (X,)),), ("d",)
        app = App(YN, (("m", 1),), (("x", "yes"),), HOME, late=late, form=form)
        self.assertEqual(difference((app, Rule()), (app, Rule(sending="go"))), (("send",),))
        told = difference((app, Rule()), (app, Rule(sending="wait")))
        self.assertEqual(told, (("send",), ("land", 0)))
        other = App(YN, (("m", 1),), (("x", "yes"),), HOME, late=(("d", "m", (("word", "yes"),)),), form=form)
        self.assertEqual(difference((app, Rule()), (other, Rule())), (("land", 0), ("set", "x", "no"), ("send",)))

    def test_land_and_timer_up_to_the_greater_number(self):
        # The second app asks for nothing, so the first one has more acts, and the other way round.
        late = (("d", "m", (X,)),)
        asked = App(YN, (("m", 1),), (("x", "yes"),), (("home", ("d",), None), ("view", (), None)), late=late, rows=None)
        eager, needed = Rule(), Rule(ask="needed")
        home = (("home", (), None), ("view", ("d",), None))
        lazy = App(YN, (("m", 1),), (("x", "yes"),), home, late=late)
        expected = (("land", 0), ("go", "view"))
        self.assertEqual(difference((lazy, eager), (lazy, needed)), expected)
        self.assertEqual(difference((lazy, needed), (lazy, eager)), expected)
        self.assertIsNone(difference((asked, eager), (asked, eager)))
        handlers = (("h", "m", "home", "x", (NOT_X,), (), "later"),)
        later = App(YN, (("m", 1),), (("x", "yes"),), HOME, handlers=handlers)
        now = App(YN, (("m", 1),), (("x", "yes"),), HOME, handlers=(handlers[0][:6] + ("now",),))
        self.assertEqual(difference((now, Rule()), (later, Rule())), (("press", "h"),))
        held = App(YN, (("m", 1),), (("x", "yes"),), HOME, handlers=(("h", "m", "home", "x", (X,), (), "later"),))
        same = App(YN, (("m", 1),), (("x", "yes"),), HOME, handlers=(("h", "m", "home", "x", (X,), (), "now"),))
        self.assertIsNone(difference((same, Rule()), (held, Rule())))
        told = difference((same, Rule(timers="held")), (held, Rule(timers="held")))
        self.assertEqual(told, (("press", "h"), ("set", "x", "no"), ("timer", 0)))
        self.assertEqual(difference((held, Rule(timers="held")), (same, Rule(timers="held"))), told)

    def test_a_deed_that_leads_out_of_the_bounds_in_one_of_the_two(self):
        handlers = (("h", "m", "home", "x", (("word", "no"),), (), "later"),)
        later = App(YN, (("m", 1),), (("x", "yes"),), HOME, handlers=handlers)
        now = App(YN, (("m", 1),), (("x", "yes"),), HOME, handlers=(handlers[0][:6] + ("now",),))
        for pairs in (((now, Rule()), (later, Rule())), ((later, Rule()), (now, Rule()))):
            self.assertEqual(difference(*pairs, timers=1), (("press", "h"),))
            # Without timers the press is left out, and nothing else differs.
            self.assertIsNone(difference(*pairs, timers=0))

    def test_a_difference_that_comes_before_the_limit_is_passed(self):
        app = full_app()
        pairs = ((app, Rule()), (app, Rule(sending="go")))
        self.assertEqual(difference(*pairs), (("send",),))
        told, row = plain_search(pairs, 2, 1)
        self.assertEqual(difference(*pairs, limit=len(row)), told)
        with self.assertRaises(LimitExceeded):
            difference(*pairs, limit=len(row) - 1)
        with self.assertRaises(LimitExceeded) as caught:
            difference((app, Rule()), (app, Rule()), limit=300)
        self.assertEqual(caught.exception.limit, 300)

    def test_apps_that_differ_in_all_that_may_differ(self):
        first = full_app()
        second = App(**{**full_arguments(), "inputs": (("x", "no"), ("y", "yes")),
                        "pages": (("home", ("u",), ("n", (X, Y))), ("view", (), None), ("last", ("v",), None)),
                        "made": (("q", "n", (Y, X)),), "late": (("u", "m", (Y,)),), "rows": ("s", "yes", "v", "m", (("slot", "s"),)),
                        "handlers": (("h", "n", "last", "y", (X, X), ("q",), "later"), ("k", "m", "home", "x", (Y,), (), "now")),
                        "form": ("q", "u")})
        self.assertEqual(difference((first, Rule()), (second, Rule(key="place"))), ())
        same = App(**{**full_arguments(), "late": (("d", "n", (X, ("slot", "b"))), ("u", "m", (X,))),
                      "pages": (("home", (), None), ("view", ("d", "g"), ("m", (X,))), ("last", (), None))})
        told = difference((first, Rule()), (same, Rule()))
        self.assertEqual(told, plain_search(((first, Rule()), (same, Rule())), 2, 1)[0])

    def test_not_comparable(self):
        named = tuple((name, (), None) for name in ("home", "view", "last"))
        turned = (named[1], named[0], named[2])
        one = (("h", "m", "home", "x", (NOT_X,), (), "now"),)
        # Each one differs in the named part and, as far as it can, in all parts behind it.
        changes = (
            ("words", {"words": ("yes", "may"), "modules": (("m", 1),), "inputs": (("z", "yes"),), "pages": HOME, "made": (),
                       "late": (), "rows": None, "handlers": (), "form": None}),
            ("modules", {"modules": (("n", 2), ("m", 1)), "inputs": (("y", "no"), ("x", "yes")), "pages": turned, "rows": None,
                         "handlers": one, "form": None}),
            ("inputs", {"inputs": (("y", "no"), ("x", "yes")), "pages": turned, "rows": None, "handlers": one, "form": None}),
            ("pages", {"pages": turned, "rows": None, "handlers": one, "form": None}),
            ("handlers", {"handlers": full_arguments()["handlers"][::-1], "pages": named, "rows": None, "form": None}),
            ("rows", {"pages": named, "rows": None, "form": None}),
            ("form", {"form": None}),
        )
        app = full_app()
        for part, passed in changes:
            other = full_app(**passed)
            for pairs in (((app, Rule()), (other, Rule())), ((other, Rule()), (app, Rule(key="place")))):
                for ask in (difference, alike, pairing):
                    with self.assertRaises(NotComparable) as caught:
                        ask(*pairs, limit=1)
                    self.assertEqual(caught.exception.part, part)
                    with self.assertRaises(InvalidBound):
                        ask(*pairs, limit=0)
        other = full_app(modules=(("m", 2), ("n", 2)), made=(), late=(), rows=None, handlers=(), form=None, pages=HOME)
        with self.assertRaises(NotComparable) as caught:
            difference((app, Rule()), (other, Rule()))
        self.assertEqual(caught.exception.part, "modules")

    def test_wrong_bounds(self):
        app = interface_app()
        pairs = ((app, Rule()), (full_app(), Rule()))
        for value in (*WRONG_BOUNDS, *LARGE):
            for passed in ({"acts": value, "timers": None, "limit": 0}, {"timers": value, "limit": 0}, {"limit": value}):
                for ask in (lambda: difference(*pairs, **passed), lambda: alike(*pairs, **passed),
                            lambda: pairing(*pairs, **passed), lambda: rules_alike(app, [], **passed)):
                    with self.assertRaises(InvalidBound) as caught:
                        ask()
                    self.assertIs(caught.exception.value, value)
        for part, wrong in (("acts", (0, 13)), ("timers", (-1, 5)), ("limit", (0, 20001))):
            for value in wrong:
                for ask in (difference, alike, pairing):
                    with self.assertRaises(InvalidBound) as caught:
                        ask(*pairs, **{part: value})
                    self.assertEqual(caught.exception.value, value)
                with self.assertRaises(InvalidBound):
                    rules_alike(app, [Rule()], **{part: value})
        same = ((app, Rule()), (app, Rule()))
        for passed in ({"acts": 1}, {"timers": 0}, {"timers": 4}, {"limit": 20000}):
            self.assertIsNone(difference(*same, **passed))
        bare = App(YN, (("m", 1),), (("x", "yes"),), HOME)
        self.assertIsNone(difference((bare, Rule()), (bare, Rule()), acts=12, limit=2))

    def test_three_words(self):
        app = App(YNM, (("m", 1),), (("x", "yes"),), HOME, late=(("d", "m", (X,)),))
        for other in (Rule(newest=True), Rule(words=False), Rule(again="match")):
            pairs = ((app, Rule()), (app, other))
            self.assertEqual(difference(*pairs, acts=1), plain_search(pairs, 1, 1)[0])

    def test_what_is_told_is_new(self):
        app = App(YN, (("m", 1),), (("x", "yes"),), HOME)
        told = pairing((app, Rule()), (app, Rule()))
        self.assertIs(type(told), list)
        self.assertEqual([type(item) for item in told], [tuple, tuple])
        told.clear()
        self.assertEqual(len(pairing((app, Rule()), (app, Rule()))), 2)


class RulesAlikeTest(unittest.TestCase):
    def test_by_hand(self):
        app = App(YN, (("m", 1),), (("x", "yes"),), HOME, made=(("a", "m", (X,)),), form=("a",))
        bar, wait, go = Rule(), Rule(sending="wait"), Rule(sending="go")
        for kind in (list, tuple):
            self.assertEqual(rules_alike(app, kind([bar, go, wait, go, Rule(key="place")])), [[0, 2, 4], [1, 3]])
            self.assertEqual(rules_alike(app, kind([bar])), [[0]])
            self.assertEqual(rules_alike(app, kind([go, bar] * 3)), [[0, 2, 4], [1, 3, 5]])
            self.assertEqual(rules_alike(app, kind([bar] * 6)), [[0, 1, 2, 3, 4, 5]])

    def test_drawn_apps(self):
        seen = set()
        for source, pairs, bounds in drawn_pairs(60, start=3000, most=80):
            app, rule = pairs[0]
            rules = [rule, pairs[1][1], rule]
            part, values = source.choice(PARTS)
            rules.append(rule.turned(part, source.choice(values)))
            source.shuffle(rules)
            expected = []
            try:
                for at, each in enumerate(rules):
                    for group in expected:
                        if difference((app, rules[group[0]]), (app, each), limit=200, **bounds) is None:
                            group.append(at)
                            break
                    else:
                        expected.append([at])
            except LimitExceeded:
                with self.assertRaises(LimitExceeded):
                    rules_alike(app, rules, limit=200, **bounds)
                continue
            told = rules_alike(app, rules, limit=200, **bounds)
            self.assertEqual(told, expected)
            self.assertEqual([type(group) for group in told], [list] * len(told))
            seen.add(len(told))
        self.assertGreater(len(seen), 1)

    def test_errors_in_their_order(self):
        app = interface_app()
        for count in (0, 7, 8):
            for kind in (list, tuple):
                with self.assertRaises(InvalidRules):
                    rules_alike(app, kind([Rule()] * count))
                with self.assertRaises(InvalidBound):
                    rules_alike(app, kind([Rule()] * count), limit=0)
        with self.assertRaises(LimitExceeded) as caught:
            rules_alike(app, [Rule(), Rule()], limit=5)
        self.assertEqual(caught.exception.limit, 5)
        # One rule is compared with nothing.
        self.assertEqual(rules_alike(app, [Rule()], limit=1), [[0]])


class IdlePartsTest(unittest.TestCase):
    """Each sentence with an app to which it alone applies, and just not."""

    def app(self, **changes):
        """An app in which all parts of a rule matter, with some arguments changed."""
        passed = {"modules": (("m", 2),), "inputs": (("x", "yes"),), "pages": (("home", (), None), ("view", ("d", "g"), None)),
                  "late": (("d", "m", (X, X)),), "rows": ("r", "no", "g", "m", (X, X)),
                  "handlers": (("h", "m", "home", "x", (X, X), (), "later"),), "form": ("d",), **changes}
        return App(YN, passed.pop("modules"), passed.pop("inputs"), passed.pop("pages"), **passed)

    RULE = Rule(turn="loaded", holds="listed")

    def test_nothing_is_idle(self):
        self.assertEqual(idle_parts(self.app(), self.RULE), ())
        self.assertEqual(plain_rule(self.app(), self.RULE), self.RULE)

    def test_no_late_slots(self):
        none = self.app(late=(), rows=None, pages=HOME, form=("a",), made=(("a", "m", (X, X)),))
        expected = ("again", "one", "words", "code", "newest", "keep", "key", "ask", "saves")
        self.assertEqual(idle_parts(none, self.RULE), expected)
        rows = self.app(late=(), pages=HOME, form=("a",), made=(("a", "m", (X, X)),))
        self.assertEqual(idle_parts(rows, self.RULE), ())

    def test_no_rows(self):
        app = self.app(rows=None, pages=(("home", (), None), ("view", ("d",), None)))
        self.assertEqual(idle_parts(app, self.RULE), ("key",))

    def test_one_edition(self):
        one = {"late": (("d", "m", (X,)),), "rows": ("r", "no", "g", "m", (X,)),
               "handlers": (("h", "m", "home", "x", (X,), (), "later"),)}
        self.assertEqual(idle_parts(self.app(modules=(("m", 1),), **one), self.RULE), ("code",))
        self.assertEqual(idle_parts(self.app(modules=(("m", 1), ("n", 1)), **one), self.RULE), ("code",))
        self.assertEqual(idle_parts(self.app(modules=(("m", 1), ("n", 2)), **one), self.RULE), ())

    def test_one_act_at_a_time(self):
        self.assertEqual(idle_parts(self.app(), self.RULE.turned("one", "one")), ("newest",))

    def test_every_page_needs_all(self):
        both = (("home", ("g", "d"), None), ("view", ("d", "g"), None))
        self.assertEqual(idle_parts(self.app(pages=both), self.RULE), ("ask",))
        for missing in ("d", "g"):
            less = (("home", ("g", "d"), None), ("view", (missing,), None))
            self.assertEqual(idle_parts(self.app(pages=less), self.RULE), ())
        self.assertEqual(idle_parts(self.app(pages=both[:1]), self.RULE), ("ask",))

    def test_turn_once(self):
        self.assertEqual(idle_parts(self.app(), self.RULE.turned("turn", "once")), ("guard",))

    def test_handlers(self):
        self.assertEqual(idle_parts(self.app(handlers=()), self.RULE), ("holds", "swap", "timers"))
        self.assertEqual(idle_parts(self.app(), self.RULE.turned("holds", "now")), ("swap",))
        now = ("h", "m", "home", "x", (X, X), (), "now")
        self.assertEqual(idle_parts(self.app(handlers=(now,)), self.RULE), ("timers",))
        later = ("k", "m", "view", "x", (X, X), (), "later")
        self.assertEqual(idle_parts(self.app(handlers=(now, later)), self.RULE), ())

    def test_no_form(self):
        self.assertEqual(idle_parts(self.app(form=None), self.RULE), ("sending",))

    def test_all_at_once(self):
        bare = App(YN, (("m", 1),), (("x", "yes"),), HOME)
        expected = tuple(part for part, _ in PARTS if part != "turn")
        self.assertEqual(idle_parts(bare, Rule()), expected)
        self.assertEqual(idle_parts(bare, Rule(turn="loaded")), tuple(part for part in expected if part != "guard"))
        self.assertEqual(idle_parts(bare, Rule(turn="loaded", holds="listed", one="one")),
                         tuple(part for part in expected if part != "guard"))
        last = Rule(**{part: values[-1] for part, values in PARTS})
        self.assertEqual(plain_rule(bare, last), Rule(**{**{part: values[0] for part, values in PARTS}, "turn": "loaded",
                                                         "guard": "land"}))


class PlainRuleTest(unittest.TestCase):
    def test_first_values_of_the_idle_parts(self):
        for source in sources(300):
            app = source.choice((random_app, small_app, tiny_app))(source)
            rule = random_rule(source)
            kept = kept_of(app, rule)
            idle = idle_parts(app, rule)
            self.assertIs(type(idle), tuple)
            self.assertEqual(list(idle), [part for part, _ in PARTS if part in idle])
            plain = plain_rule(app, rule)
            expected = {part: values[0] if part in idle else now for (part, values), now in zip(PARTS, rule.choice)}
            self.assertEqual(plain, Rule(**expected))
            self.assertEqual(plain_rule(app, plain), plain)
            self.assertEqual(kept_of(app, rule), kept)

    def test_sessions_are_the_same(self):
        for source in sources(250, start=400):
            app = source.choice((random_app, small_app, tiny_app))(source)
            rule = random_rule(source)
            idle = idle_parts(app, rule)
            others = [plain_rule(app, rule)] + [Rule(**{part: source.choice(values) if part in idle else now for (part, values), now
                                                       in zip(PARTS, rule.choice)}) for _ in range(2)]
            last = begin(app, rule)
            besides = [begin(app, other) for other in others]
            for _ in range(40):
                for beside_it in besides:
                    self.assertEqual((beside_it.standing, beside_it.events), (last.standing, last.events))
                deed = random_deed(source, app, last.standing)
                besides = [step(app, other, beside_it.standing, deed) for other, beside_it in zip(others, besides)]
                last = step(app, rule, last.standing, deed)

    def test_each_single_part(self):
        # Each value of each part that is idle, in apps in which it is.
        seen = set()
        for source in sources(150, start=800):
            app, rule = tiny_app(source), random_rule(source)
            idle = idle_parts(app, rule)
            turned = [rule.turned(part, value) for part, values in PARTS if part in idle for value in values]
            seen.update(idle)
            last = begin(app, rule)
            besides = [begin(app, other) for other in turned]
            for _ in range(25):
                for beside_it in besides:
                    self.assertEqual((beside_it.standing, beside_it.events), (last.standing, last.events))
                deed = random_deed(source, app, last.standing)
                besides = [step(app, other, beside_it.standing, deed) for other, beside_it in zip(turned, besides)]
                last = step(app, rule, last.standing, deed)
        self.assertEqual(seen, {part for part, _ in PARTS} - {"turn"})


if __name__ == "__main__":
    unittest.main()
