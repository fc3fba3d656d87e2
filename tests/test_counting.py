"""[53] to [55]: counts of acts, rules that begin less, and what a book tells of its standings."""

import unittest

from onesession.apps import App
from onesession.books import Book
from onesession.counting import counts, counts_by_slot, fewest_begun, fewest_vain, is_settled, least_page, lost, most_acts
from onesession.errors import BadDeed, InvalidRules
from onesession.rules import Rule
from onesession.running import begin, step
from onesession.verdict import verdict
from tests.model import Model
from tests.samples import LARGE, STRANGE, X, YN, copied, interface_app, random_app, random_deed, random_rule
from tests.samples import sources
from tests.test_books import small_books
from tests.test_conditions import small_app
from tests.test_verdict import kept_of

HOME = (("home", (), None),)


def drawn_session(source, app, rule, length=30):
    """The deeds of a random session."""
    deeds = []
    last = begin(app, rule)
    for _ in range(length):
        deeds.append(random_deed(source, app, last.standing))
        last = step(app, rule, last.standing, deeds[-1])
    return deeds


def counted(app, rule, deeds, slot=None):
    """The counts of a session, by a second way to run it; those of one slot, if it is named."""
    model = Model(app, rule)
    found = {"begun": 0, "taken": 0, "dropped": 0, "closed": 0}
    events = list(model.events)
    for deed in deeds:
        if deed[0] == "reopen":
            found["closed"] += len([act for act in model.acts if slot in (None, act[0])])
        events += model.do(deed)
    for event in events:
        if event[0] in found and slot in (None, event[1]):
            found[event[0]] += 1
    left = len([act for act in model.acts if slot in (None, act[0])])
    return (*found.values(), left)


class CountsTest(unittest.TestCase):
    def test_by_hand(self):
        app = interface_app()
        rule = Rule()
        self.assertEqual(counts(app, rule, ()), (1, 0, 0, 0, 1))
        self.assertEqual(counts(app, rule, [("land", 0)]), (1, 1, 0, 0, 0))
        self.assertEqual(counts(app, rule, [("set", "x", "no"), ("land", 0)]), (2, 0, 1, 0, 1))
        # A session that is opened again while two acts are under way begins another one.
        self.assertEqual(counts(app, rule, [("set", "x", "no"), ("reopen", (0,)), ("land", 0)]), (3, 1, 0, 2, 0))
        self.assertEqual(counts(app, rule, [("land", 0), ("reopen", (0,)), ("reopen", (1,))]), (3, 1, 0, 1, 1))
        self.assertEqual(counts(app, rule, [("land", 5), ("timer", 0)]), (1, 0, 0, 0, 1))

    def test_rows_that_go_while_acts_are_under_way(self):
        app = App(YN, (("m", 1),), (("x", "yes"),), HOME, rows=("r", "no", "g", "m", (("slot", "r"),)), late=(("d", "m", (X,)),))
        deeds = [("add", 1), ("add", 2), ("drop", 1), ("land", 1), ("land", 1)]
        self.assertEqual(counts(app, Rule(), deeds), (3, 1, 1, 0, 1))
        self.assertEqual(counts_by_slot(app, Rule(), deeds), [("d", (1, 0, 0, 0, 1)), ("g", (2, 1, 1, 0, 0))])
        self.assertEqual(counts(app, Rule(key="place"), deeds), (3, 1, 1, 0, 1))
        opened = deeds[:3] + [("reopen", (0,))]
        self.assertEqual(counts_by_slot(app, Rule(), opened), [("d", (2, 0, 0, 1, 1)), ("g", (3, 0, 0, 2, 1))])

    def test_beside_a_second_way_to_count(self):
        for source in sources(250):
            app = source.choice((random_app, small_app))(source)
            rule = random_rule(source)
            kept = kept_of(app, rule)
            deeds = source.choice((list, tuple))(drawn_session(source, app, rule))
            before = copied(deeds)
            told = counts(app, rule, deeds)
            self.assertIs(type(told), tuple)
            self.assertEqual(told, counted(app, rule, deeds))
            self.assertEqual(told[0], sum(told[1:]))
            by_slot = counts_by_slot(app, rule, deeds)
            self.assertIs(type(by_slot), list)
            self.assertEqual(by_slot, [(slot, counted(app, rule, deeds, slot)) for slot in app.late_slots])
            self.assertEqual(told, tuple(sum(column) for column in zip((0,) * 5, *[each for _, each in by_slot])))
            for _, each in by_slot:
                self.assertEqual(each[0], sum(each[1:]))
            self.assertEqual((kept_of(app, rule), deeds), (kept, before))

    def test_an_app_without_late_slots(self):
        app = App(YN, (("m", 1),), (("x", "yes"),), HOME)
        self.assertEqual(counts(app, Rule(), [("set", "x", "no"), ("reopen", (0,))]), (0, 0, 0, 0, 0))
        self.assertEqual(counts_by_slot(app, Rule(), ()), [])

    def test_a_new_list_each_time(self):
        app = interface_app()
        counts_by_slot(app, Rule(), ()).clear()
        self.assertEqual(counts_by_slot(app, Rule(), ()), [("d", (1, 0, 0, 0, 1))])

    def test_wrong_deeds(self):
        app, rule = interface_app(), Rule()
        right = [("set", "x", "no"), ("land", 9)]
        for value in (*STRANGE, *LARGE, ("send",), ("add", 1), ["go", "home"], ("land", True), ("land", -1)):
            for kind in (list, tuple):
                deeds = kind(right + [value, None, []])
                for ask in (lambda: counts(app, rule, deeds), lambda: counts_by_slot(app, rule, deeds),
                            lambda: fewest_begun(app, [rule], deeds), lambda: fewest_vain(app, (rule, rule), deeds)):
                    with self.assertRaises(BadDeed) as caught:
                        ask()
                    self.assertIs(caught.exception.deed, value)


class FewestTest(unittest.TestCase):
    def test_one_several_and_six_rules(self):
        app = interface_app()
        deeds = [("set", "x", "no"), ("set", "x", "yes"), ("land", 0), ("land", 0)]
        many, one, match = Rule(), Rule(one="one"), Rule(again="match")
        self.assertEqual([counts(app, rule, deeds)[:3] for rule in (many, one, match)], [(3, 1, 1), (1, 1, 0), (2, 1, 1)])
        for kind in (list, tuple):
            self.assertEqual(fewest_begun(app, kind([many]), deeds), [0])
            self.assertEqual(fewest_begun(app, kind([many, one, match]), deeds), [1])
            self.assertEqual(fewest_vain(app, kind([many, one, match]), deeds), [1])
            self.assertEqual(fewest_begun(app, kind([many, match, many]), deeds), [1])
            self.assertEqual(fewest_vain(app, kind([many, match, many]), deeds), [0, 1, 2])
            self.assertEqual(fewest_begun(app, kind([one, many, one, one, match, one]), tuple(deeds)), [0, 2, 3, 5])
            self.assertEqual(fewest_vain(app, kind([many] * 6), deeds), [0, 1, 2, 3, 4, 5])

    def test_what_is_closed_is_in_vain(self):
        app = interface_app()
        deeds = [("set", "x", "no"), ("reopen", (0,))]
        self.assertEqual([counts(app, rule, deeds) for rule in (Rule(), Rule(one="one"))], [(3, 0, 0, 2, 1), (2, 0, 0, 1, 1)])
        self.assertEqual(fewest_vain(app, [Rule(), Rule(one="one")], deeds), [1])
        # Acts that are under way at the end are not.
        self.assertEqual(fewest_vain(app, [Rule(), Rule(one="one")], deeds[:1]), [0, 1])

    def test_drawn_apps(self):
        for source in sources(100):
            app = source.choice((random_app, small_app))(source)
            rules = [random_rule(source) for _ in range(source.randint(1, 6))]
            deeds = drawn_session(source, app, rules[0])
            kept = [rule.choice for rule in rules]
            begun = [counted(app, rule, deeds)[0] for rule in rules]
            vain = [counted(app, rule, deeds)[2] + counted(app, rule, deeds)[3] for rule in rules]
            for told, numbers in ((fewest_begun(app, rules, deeds), begun), (fewest_vain(app, rules, deeds), vain)):
                self.assertIs(type(told), list)
                self.assertEqual(told, [at for at, number in enumerate(numbers) if number == min(numbers)])
            self.assertEqual([rule.choice for rule in rules], kept)

    def test_wrong_rules_come_first(self):
        app = interface_app()
        for count in (0, 7, 100):
            for kind in (list, tuple):
                for deeds in ((), [None], [("land", 0)]):
                    for ask in (fewest_begun, fewest_vain):
                        with self.assertRaises(InvalidRules):
                            ask(app, kind([Rule()] * count), deeds)

    def test_what_is_dropped_where_nothing_is_compared(self):
        dropped = 0
        for source in sources(200):
            app = source.choice((random_app, random_app, small_app))(source)
            rule = random_rule(source, words=False, code=False, newest=False)
            deeds = drawn_session(source, app, rule, 40)
            model = Model(app, rule)
            for deed in deeds:
                names = [tuple(act[:2]) for act in model.acts]
                there = [name for name, _, _ in model.there()]
                events = model.do(deed)
                if events and events[0][0] == "dropped":
                    dropped += 1
                    self.assertIn(events[0][1:], names)
                    self.assertNotIn(events[0][1:], there)
            if app.rows is None:
                self.assertEqual(counts(app, rule, deeds)[2], 0)
        self.assertGreater(dropped, 5)

    def test_key_alone_in_an_app_without_rows(self):
        seen = 0
        for source in sources(150):
            app = source.choice((random_app, small_app))(source)
            if app.rows is None:
                rule = random_rule(source)
                deeds = drawn_session(source, app, rule)
                told = [counts(app, rule.turned("key", key), deeds) for key in ("id", "place")]
                self.assertEqual(told[0], told[1])
                seen += 1
        self.assertGreater(seen, 30)


class SettledTest(unittest.TestCase):
    def test_is_settled(self):
        seen = [0, 0]
        for source in sources(150):
            app = source.choice((random_app, small_app))(source)
            rule = random_rule(source)
            model = Model(app, rule)
            for deed in drawn_session(source, app, rule, 40):
                model.do(deed)
                expected = model.is_quiet() and not model.stale()
                self.assertIs(is_settled(app, rule, model.standing()), expected)
                seen[expected] += 1
                if model.is_quiet() and not [fault for fault in verdict(app, rule) if fault[0] == "unsettled"]:
                    self.assertTrue(expected)
        self.assertGreater(min(seen), 100)

    def test_a_timer_or_an_act(self):
        app = App(YN, (("m", 1),), (("x", "yes"),), HOME, late=(("d", "m", (X,)),),
                  handlers=(("h", "m", "home", "x", (X,), (), "later"),))
        first = begin(app, Rule()).standing
        landed = step(app, Rule(), first, ("land", 0)).standing
        pressed = step(app, Rule(), landed, ("press", "h")).standing
        self.assertEqual([is_settled(app, Rule(), standing) for standing in (first, landed, pressed)], [False, True, False])


class BookTest(unittest.TestCase):
    def lost_by_hand(self, book):
        """The lost standings: from each one all is searched."""
        found = []
        for first in book.standings():
            row = [first]
            for standing in row:
                for deed in book.moves(standing):
                    behind = book.follow(standing, deed)
                    if behind not in row:
                        row.append(behind)
            if not [standing for standing in row if is_settled(book.app, book.rule, standing)]:
                found.append(first)
        return found

    def test_lost(self):
        some = none = 0
        for _, book in small_books(40, start=600, most=40):
            told = lost(book)
            self.assertIs(type(told), list)
            self.assertEqual(told, self.lost_by_hand(book))
            some += told != []
            if not [fault for fault in verdict(book.app, book.rule) if fault[0] == "unsettled"]:
                self.assertEqual(told, [])
                none += 1
            told.clear()
            self.assertEqual(len(lost(book)), len(self.lost_by_hand(book)))
        self.assertGreater(none, 10)

    def test_some_are_lost(self):
        # Opened again in the same state, d is never asked for again, and there is one state alone.
        late = (("d", "m", (("word", "no"),)),)
        app = App(YN, (("m", 1),), (("x", "yes"),), HOME, late=late)
        book = Book(app, Rule(saves="records"))
        told = lost(book)
        self.assertEqual(told, self.lost_by_hand(book))
        self.assertEqual([standing[0] for standing in told], [("yes",), ("no",)])
        for standing in told:
            self.assertEqual((standing[5][0][0], standing[6]), (None, ()))
        self.assertEqual(lost(Book(app, Rule())), [])

    def test_most_acts(self):
        for _, book in small_books(60, start=700):
            numbers = [len(standing[6]) for standing in book.standings()]
            standing = book.standings()[numbers.index(max(numbers))]
            self.assertEqual(most_acts(book), (max(numbers), book.least_session(standing)))
            self.assertIs(type(most_acts(book)), tuple)
        bare = Book(App(YN, (("m", 1),), (("x", "yes"),), HOME), Rule())
        self.assertEqual(most_acts(bare), (0, ()))
        book = Book(interface_app(), Rule())
        self.assertEqual(most_acts(book), (2, (("set", "x", "no"),)))
        self.assertEqual(most_acts(Book(interface_app(), Rule(one="one"))), (1, ()))

    def test_least_page(self):
        for _, book in small_books(60, start=800):
            for page in book.app.page_names:
                shown = [standing for standing in book.standings() if standing[3] == page]
                expected = book.least_session(shown[0]) if shown else None
                self.assertEqual(least_page(book, page), expected)
            self.assertEqual(least_page(book, "home"), ())
        never = (("home", (), None), ("view", (), ("m", (("word", "no"),))), ("last", (), ("m", (X,))))
        book = Book(App(YN, (("m", 1),), (("x", "no"),), never), Rule())
        self.assertIsNone(least_page(book, "view"))
        self.assertEqual(least_page(book, "last"), (("set", "x", "yes"), ("go", "last")))
        for value in (*STRANGE, *LARGE, "zzz", ["home"], ("home",), {"home": 1}):
            self.assertIsNone(least_page(book, value))

    def test_a_book_is_not_changed(self):
        book = Book(interface_app(), Rule(words=False))
        kept = (book.standings(), book.faults(), len(book))
        lost(book)
        most_acts(book)
        least_page(book, "view")
        self.assertEqual((book.standings(), book.faults(), len(book)), kept)


if __name__ == "__main__":
    unittest.main()
