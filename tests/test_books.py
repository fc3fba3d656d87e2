"""[47] to [50]: books, their faults, and closed lists."""

import time
import unittest

from onesession.apps import App
from onesession.books import Book, is_closed, shows_free
from onesession.deeds import all_deeds
from onesession.errors import BadDeed, InvalidBound, InvalidKind, LimitExceeded, NoFault, NoStanding
from onesession.judging import KINDS, all_faults, faults
from onesession.rules import Rule
from onesession.running import begin, step
from onesession.verdict import verdict
from tests.samples import LARGE, NOT_X, STRANGE, X, YN, copied, full_app, interface_app, largest_app, random_app, random_rule
from tests.samples import sources, tiny_app
from tests.test_verdict import kept_of

HOME = (("home", (), None),)
# Wrong values for each bound, whatever its least and greatest values are.
WRONG_BOUNDS = (-1, 10 ** 30, -10 ** 3999, None, True, False, "1", "", [], [1], (), (1,), {}, 1.5)


def within(standing, acts, timers):
    """Tell whether a standing is within the bounds, as [48] words it."""
    begun = [act[:2] for act in standing[6]]
    return len(standing[8]) <= timers and all(begun.count(name) <= acts for name in set(begun))


def plain_search(app, rule, acts, timers):
    """The least sessions by their standings, and the least session for each fault: all sessions, the shorter ones first.

    A session that has led to a standing to which an earlier one leads is not gone on with.
    """
    first = begin(app, rule)
    found, shown = {first.standing: ()}, {fault: () for fault in faults(app, rule, first)}
    row = [()]
    while row:
        longer = []
        for session in row:
            standing = first.standing
            for deed in session:
                standing = step(app, rule, standing, deed).standing
            for deed in all_deeds(app, standing):
                last = step(app, rule, standing, deed)
                if within(last.standing, acts, timers):
                    for fault in faults(app, rule, last):
                        shown.setdefault(fault, session + (deed,))
                    if last.standing not in found:
                        found[last.standing] = session + (deed,)
                        longer.append(session + (deed,))
        row = longer
    return found, shown


def small_books(count, start=0, most=120):
    """Books of drawn apps with few standings, each with its source."""
    made = 0
    for source in sources(100000, start=start):
        app, rule = tiny_app(source), random_rule(source)
        try:
            book = Book(app, rule, acts=source.choice((1, 1, 2, 3)), timers=source.choice((0, 1, 2)), limit=most)
        except LimitExceeded:
            continue
        yield source, book
        made += 1
        if made == count:
            return


class BookTest(unittest.TestCase):
    def test_beside_a_plain_search(self):
        sizes = set()
        for _, book in small_books(120):
            kept = kept_of(book.app, book.rule)
            found, shown = plain_search(book.app, book.rule, book.acts, book.timers)
            sizes.add(len(book))
            self.assertEqual(len(book), len(found))
            self.assertEqual(repr(book.standings()), repr(list(found)))
            for standing, session in found.items():
                self.assertIn(standing, book)
                self.assertEqual(book.least_session(standing), session)
                self.assertIs(type(book.least_session(standing)), tuple)
            self.assertEqual(book.faults(), [fault for fault in all_faults(book.app) if fault in shown])
            for (kind, name), session in shown.items():
                self.assertEqual(book.least_fault(kind, name), session)
            self.assertEqual(kept_of(book.app, book.rule), kept)
        self.assertGreater(len(sizes), 20)

    def test_all_sessions_of_few_deeds(self):
        # Nothing is left out here: each session with at most three deeds is done from the beginning.
        for source, book in small_books(12, start=300, most=60):
            app, rule = book.app, book.rule
            row, first = [()], {begin(app, rule).standing: ()}
            for _ in range(3):
                longer = []
                for session in row:
                    standing = begin(app, rule).standing
                    for deed in session:
                        standing = step(app, rule, standing, deed).standing
                    for deed in all_deeds(app, standing):
                        behind = step(app, rule, standing, deed).standing
                        if within(behind, book.acts, book.timers):
                            longer.append(session + (deed,))
                            first.setdefault(behind, session + (deed,))
                row = longer
            near = [standing for standing in book.standings() if len(book.least_session(standing)) <= 3]
            self.assertEqual(near, list(first))
            self.assertEqual([book.least_session(standing) for standing in near], list(first.values()))

    def test_attributes_and_defaults(self):
        app, rule = interface_app(), Rule(keep="clear")
        book = Book(app, rule, acts=3, timers=0, limit=9000)
        self.assertIs(book.app, app)
        self.assertIs(book.rule, rule)
        self.assertEqual((book.acts, book.timers, book.limit), (3, 0, 9000))
        plain = Book(app, Rule(one="one"))
        self.assertEqual((plain.acts, plain.timers, plain.limit), (2, 1, 2000))

    def test_what_is_told_is_new(self):
        for _, book in small_books(10):
            standings = book.standings()
            kept = [copied(standings), [book.moves(standing) for standing in standings], book.faults(), len(book)]
            book.standings().clear()
            book.moves(standings[0]).clear()
            book.faults().clear()
            book.faults().append(("sent", "zzz"))
            self.assertEqual([book.standings(), [book.moves(standing) for standing in standings], book.faults(), len(book)], kept)
            self.assertIs(type(book.standings()), list)

    def test_the_bounds_of_a_book(self):
        app, rule = interface_app(), Rule()
        sizes = [len(Book(app, rule, acts=acts)) for acts in (1, 2, 3)]
        self.assertEqual(sizes, sorted(set(sizes)))
        later = App(YN, (("m", 1),), (("x", "yes"),), HOME, handlers=(("h", "m", "home", "x", (NOT_X,), (), "later"),))
        self.assertEqual([len(Book(later, Rule(), timers=timers)) for timers in (0, 1, 2)], [2, 6, 14])
        for acts in (1, 2, 3):
            book = Book(app, rule, acts=acts)
            most = max([len(standing[6]) for standing in book.standings()])
            self.assertEqual(most, acts)

    def test_acts_of_an_instance_that_is_not_there_any_more(self):
        app = App(YN, (("m", 1),), (("x", "yes"),), HOME, rows=("r", "no", "g", "m", (("word", "no"),)))
        rule = Rule()
        gone = begin(app, rule).standing
        for deed in (("add", 1), ("drop", 1), ("add", 1), ("drop", 1)):
            gone = step(app, rule, gone, deed).standing
        self.assertEqual([act[:2] for act in gone[6]], [("g", 1), ("g", 1)])
        one = Book(app, rule, acts=1, timers=0, limit=10000)
        self.assertNotIn(gone, one)
        once = step(app, rule, step(app, rule, begin(app, rule).standing, ("add", 1)).standing, ("drop", 1)).standing
        self.assertIn(once, one)
        # The second row of this id would ask again while the act of the first one is under way.
        self.assertIsNone(one.follow(once, ("add", 1)))
        self.assertNotIn(("add", 1), one.moves(once))
        self.assertIn(("add", 2), one.moves(once))

    def test_wrong_bounds(self):
        app, rule = interface_app(), Rule()
        for value in (*WRONG_BOUNDS, *LARGE):
            for passed in ({"acts": value, "timers": None, "limit": []}, {"timers": value, "limit": None}, {"limit": value}):
                with self.assertRaises(InvalidBound) as caught:
                    Book(app, rule, **passed)
                self.assertIs(caught.exception.value, value)
        for part, wrong in (("acts", (0, 13)), ("timers", (-1, 5)), ("limit", (0, 10001))):
            for value in wrong:
                with self.assertRaises(InvalidBound) as caught:
                    Book(app, rule, **{part: value})
                self.assertEqual(caught.exception.value, value)
        bare = App(YN, (("m", 1),), (("x", "yes"),), HOME)
        for passed in ({"acts": 1}, {"acts": 12}, {"timers": 0}, {"timers": 4}, {"limit": 10000}, {"limit": 2}):
            self.assertEqual(len(Book(bare, rule, **passed)), 2)

    def test_the_limit(self):
        for _, book in small_books(30, start=900):
            passed = {"acts": book.acts, "timers": book.timers}
            self.assertEqual(len(Book(book.app, book.rule, limit=len(book), **passed)), len(book))
            for limit in {1, len(book) // 2, len(book) - 1} - {0}:
                if limit < len(book):
                    with self.assertRaises(LimitExceeded) as caught:
                        Book(book.app, book.rule, limit=limit, **passed)
                    self.assertEqual(caught.exception.limit, limit)
        with self.assertRaises(LimitExceeded) as caught:
            Book(full_app(), Rule())
        self.assertEqual(caught.exception.limit, 2000)

    def test_some_thousand_standings_are_found_in_seconds(self):
        start = time.process_time()
        for source in sources(4):
            with self.assertRaises(LimitExceeded):
                Book(largest_app(source), random_rule(source), limit=3000)
        book = Book(interface_app(), Rule(words=False, saves="records"), acts=4, limit=10000)
        self.assertGreater(len(book), 3000)
        self.assertLess(time.process_time() - start, 30)


class MovesTest(unittest.TestCase):
    def test_moves_and_follow(self):
        for source, book in small_books(40, start=50):
            app, rule = book.app, book.rule
            for standing in source.sample(book.standings(), min(15, len(book))):
                deeds = all_deeds(app, standing)
                inside = []
                for deed in deeds + [("land", 7), ("timer", 9), ("land", 10 ** 3999), ("go", "home")]:
                    behind = step(app, rule, standing, deed).standing
                    if within(behind, book.acts, book.timers):
                        self.assertEqual(book.follow(standing, deed), behind)
                        self.assertIn(behind, book)
                        inside.append(deed)
                    else:
                        self.assertIsNone(book.follow(standing, deed))
                self.assertEqual(book.moves(standing), inside[:len(inside) - 4])
                self.assertIs(type(book.moves(standing)), list)

    def test_a_deed_that_does_nothing_leads_to_the_standing_itself(self):
        book = Book(interface_app(), Rule())
        for standing in book.standings():
            self.assertEqual(book.follow(standing, ("land", 7)), standing)
            self.assertEqual(book.follow(standing, ("timer", 0)), standing)

    def test_values_that_are_no_deeds(self):
        book = Book(interface_app(), Rule())
        first = begin(book.app, book.rule).standing
        for value in (*STRANGE, *LARGE, ("send",), ("add", 1), ["go", "home"], ("land", -1), ("land", True), ("reopen", (2,))):
            with self.assertRaises(BadDeed) as caught:
                book.follow(first, value)
            self.assertIs(caught.exception.deed, value)

    def test_standings_that_are_not_in_the_book(self):
        app, rule = interface_app(), Rule()
        book = Book(app, rule, acts=1)
        first = begin(app, rule).standing
        far = step(app, rule, first, ("set", "x", "no")).standing
        self.assertFalse(within(far, 1, 1))
        self.assertIs(far in book, False)
        self.assertIs(first in book, True)
        for ask in (lambda: book.moves(far), lambda: book.follow(far, ("go", "home")), lambda: book.follow(far, None),
                    lambda: book.least_session(far), lambda: book.deeds_between(first, far),
                    lambda: book.deeds_between(far, first), lambda: book.deeds_between(far, far)):
            with self.assertRaises(NoStanding):
                ask()


class DeedsBetweenTest(unittest.TestCase):
    def paths(self, book, first):
        """The least deeds from a standing to each other one: by their number, then by the order of moves."""
        found = {first: ()}
        row = [first]
        while row:
            longer = []
            for standing in row:
                for deed in all_deeds(book.app, standing):
                    behind = step(book.app, book.rule, standing, deed).standing
                    if within(behind, book.acts, book.timers) and behind not in found:
                        found[behind] = found[standing] + (deed,)
                        longer.append(behind)
            row = longer
        return found

    def test_beside_a_plain_search(self):
        none = 0
        for source, book in small_books(30, start=150, most=60):
            standings = book.standings()
            for first in source.sample(standings, min(8, len(standings))):
                expected = self.paths(book, first)
                for second in standings:
                    told = book.deeds_between(first, second)
                    self.assertEqual(told, expected.get(second))
                    none += told is None
                self.assertEqual(book.deeds_between(first, first), ())
            for second in standings:
                self.assertEqual(book.deeds_between(standings[0], second), book.least_session(second))
        self.assertGreater(none, 20)

    def test_the_least_of_several(self):
        app = App(YN, (("m", 1),), (("x", "yes"), ("y", "yes")), HOME)
        book = Book(app, Rule())
        table = {standing[0]: standing for standing in book.standings()}
        self.assertEqual(book.deeds_between(table["yes", "yes"], table["no", "no"]), (("set", "x", "no"), ("set", "y", "no")))
        self.assertEqual(book.deeds_between(table["no", "no"], table["yes", "no"]), (("set", "x", "yes"),))


class FaultsTest(unittest.TestCase):
    def test_the_last_deed_has_the_fault(self):
        seen = set()
        for _, book in small_books(120, start=200):
            told = verdict(book.app, book.rule)
            self.assertIs(type(book.faults()), list)
            for kind, name in book.faults():
                self.assertIn((kind, name), told)
                session = book.least_fault(kind, name)
                self.assertIs(type(session), tuple)
                last = begin(book.app, book.rule)
                for deed in session:
                    self.assertIn(last.standing, book)
                    last = step(book.app, book.rule, last.standing, deed)
                self.assertIn((kind, name), faults(book.app, book.rule, last))
                seen.add(kind)
            for kind in KINDS:
                self.assertIs(book.is_free(kind), kind not in [fault[0] for fault in book.faults()])
        self.assertEqual(seen, set(KINDS))

    def test_no_fault(self):
        book = Book(interface_app(), Rule(words=False))
        self.assertEqual(book.faults(), [("unsettled", "d")])
        for kind, name in (("unsettled", "e"), ("unsettled", ""), ("", "d"), ("sent", "d"), ("elder", "d"), ("zzz", "zzz"),
                           ("unsettled", "x"), ("barred", "home"), ("a b\n", "d")):
            with self.assertRaises(NoFault) as caught:
                book.least_fault(kind, name)
            self.assertEqual((caught.exception.kind, caught.exception.name), (kind, name))

    def test_the_beginning_has_no_fault_and_the_least_session_has_a_deed(self):
        for _, book in small_books(20, start=250):
            for kind, name in book.faults():
                self.assertGreater(len(book.least_fault(kind, name)), 0)

    def test_no_kind(self):
        book = Book(interface_app(), Rule())
        for value in (*STRANGE, *LARGE, "unsettle", ("sent",), ["sent"], "apart"):
            with self.assertRaises(InvalidKind) as caught:
                book.is_free(value)
            self.assertIs(caught.exception.kind, value)

    def test_a_deed_that_does_nothing_may_have_a_fault(self):
        # Once it is unsettled and quiet, each deed that leaves it so has the fault again.
        rule = Rule(saves="records")
        book = Book(interface_app(), rule)
        self.assertEqual(book.least_fault("unsettled", "d"), (("reopen", (0,)),))


class ClosedListTest(unittest.TestCase):
    def test_the_list_of_a_book(self):
        seen = 0
        for source, book in small_books(60, start=400, most=80):
            app, rule, bounds = book.app, book.rule, {"acts": book.acts, "timers": book.timers}
            standings = book.standings()
            mixed = standings * 2
            source.shuffle(mixed)
            for row in (standings, standings[::-1], mixed):
                before = copied(row)
                self.assertIs(is_closed(app, rule, row, **bounds), True)
                for kind in KINDS:
                    self.assertIs(shows_free(app, rule, row, kind, **bounds), book.is_free(kind))
                self.assertEqual(row, before)
            if len(standings) > 1:
                at = source.randrange(len(standings))
                less = standings[:at] + standings[at + 1:]
                # Without one item a list is closed only if no deed leads to this one.
                led_to = any(book.follow(other, deed) == standings[at] for other in less for deed in book.moves(other)) or at == 0
                self.assertIs(is_closed(app, rule, less, **bounds), not led_to)
                self.assertTrue(led_to)
                for kind in KINDS:
                    self.assertIs(shows_free(app, rule, less, kind, **bounds), False)
                seen += 1
            self.assertIs(is_closed(app, rule, [], **bounds), False)
            self.assertIs(shows_free(app, rule, [], "sent", **bounds), False)
        self.assertGreater(seen, 20)

    def test_a_standing_that_is_not_within_the_bounds(self):
        app, rule = interface_app(), Rule()
        one, two = Book(app, rule, acts=1), Book(app, rule, acts=2)
        self.assertIs(is_closed(app, rule, one.standings(), acts=1), True)
        self.assertIs(is_closed(app, rule, one.standings(), acts=2), False)
        self.assertIs(is_closed(app, rule, two.standings(), acts=2), True)
        self.assertIs(is_closed(app, rule, two.standings(), acts=1), False)
        self.assertIs(is_closed(app, rule, two.standings()), True)
        self.assertIs(shows_free(app, rule, two.standings(), "unsettled"), True)
        later = App(YN, (("m", 1),), (("x", "yes"),), HOME, handlers=(("h", "m", "home", "x", (NOT_X,), (), "later"),))
        with_timers = Book(later, Rule(timers="held"), timers=2).standings()
        self.assertIs(is_closed(later, Rule(timers="held"), with_timers, timers=2), True)
        self.assertIs(is_closed(later, Rule(timers="held"), with_timers), False)
        self.assertIs(is_closed(later, Rule(timers="held"), Book(later, Rule(timers="held")).standings()), True)

    def test_further_standings(self):
        # With acts=1 nothing but reopening leads out of these standings; a further one may lead to new ones.
        app = App(YN, (("m", 1),), (("x", "yes"),), HOME, rows=("r", "no", "g", "m", (("word", "no"),)))
        rule = Rule()
        book = Book(app, rule, acts=1, timers=0, limit=10000)
        standings = book.standings()
        self.assertIs(is_closed(app, rule, standings, acts=1, timers=0), True)
        # A standing of a longer session that the bounds keep out: two acts were begun, and one has landed.
        far = begin(app, rule).standing
        for deed in (("add", 1), ("drop", 1), ("add", 1), ("land", 0)):
            far = step(app, rule, far, deed).standing
        self.assertTrue(within(far, 1, 0))
        self.assertIs(is_closed(app, rule, standings + [far], acts=1, timers=0), far in book)

    def test_further_standings_that_lead_to_themselves(self):
        # What is lost by reopening stays; from a standing with a lost word all else leads on, too.
        seen = [0, 0]
        for source, book in small_books(60, start=500, most=60):
            app, rule, bounds = book.app, book.rule, {"acts": book.acts, "timers": book.timers}
            last = begin(app, rule).standing
            for _ in range(30):
                last = step(app, rule, last, source.choice(all_deeds(app, last))).standing
                if last not in book and within(last, book.acts, book.timers):
                    more = book.standings() + [last]
                    expected = all(step(app, rule, last, deed).standing in more for deed in all_deeds(app, last)
                                   if within(step(app, rule, last, deed).standing, book.acts, book.timers))
                    self.assertIs(is_closed(app, rule, more, **bounds), expected)
                    for kind in KINDS:
                        steps = [step(app, rule, item, deed) for item in more for deed in all_deeds(app, item)]
                        shown = [fault for done in steps if within(done.standing, book.acts, book.timers)
                                 for fault in faults(app, rule, done)]
                        free = kind not in [fault[0] for fault in shown]
                        self.assertIs(shows_free(app, rule, more, kind, **bounds), expected and free)
                    seen[expected] += 1
                    break
        self.assertGreater(seen[0], 0)

    def test_a_closed_list_with_more_than_the_book(self):
        # Out of the bounds and back: three acts at once, the last one of which lands last but one.
        app, rule = interface_app(), Rule(words=False, code=False, saves="records")
        book = Book(app, rule, acts=1)
        far = begin(app, rule).standing
        for deed in (("set", "x", "no"), ("land", 1)):
            far = step(app, rule, far, deed).standing
        self.assertTrue(within(far, 1, 1) and far not in book)
        more = book.standings() + [far]
        for standing in more:
            for deed in all_deeds(app, standing):
                behind = step(app, rule, standing, deed).standing
                if within(behind, 1, 1) and behind not in more:
                    self.assertIs(is_closed(app, rule, more, acts=1), False)
                    more.append(behind)
        self.assertGreater(len(more), len(book) + 1)
        self.assertIs(is_closed(app, rule, more, acts=1), True)
        self.assertIs(is_closed(app, rule, more[::-1], acts=1), True)
        for kind in KINDS:
            self.assertIs(shows_free(app, rule, more, kind, acts=1), kind != "unsettled")
            self.assertIs(shows_free(app, rule, book.standings(), kind, acts=1), book.is_free(kind))

    def test_errors_in_their_order(self):
        app, rule = interface_app(), Rule()
        for value in (*WRONG_BOUNDS, *LARGE):
            for passed in ({"acts": value, "timers": None}, {"timers": value}):
                for ask in (lambda: is_closed(app, rule, [], **passed), lambda: is_closed(app, rule, None, **passed),
                            lambda: shows_free(app, rule, [], None, **passed), lambda: shows_free(app, rule, None, [], **passed)):
                    with self.assertRaises(InvalidBound) as caught:
                        ask()
                    self.assertIs(caught.exception.value, value)
        for passed, value in (({"acts": 0}, 0), ({"acts": 13}, 13), ({"timers": 5}, 5), ({"timers": -1}, -1)):
            with self.assertRaises(InvalidBound) as caught:
                is_closed(app, rule, [], **passed)
            self.assertEqual(caught.exception.value, value)
        for value in (*STRANGE, *LARGE, "unsettle", ["sent"]):
            for standings in ([], Book(app, rule).standings()[:3]):
                with self.assertRaises(InvalidKind) as caught:
                    shows_free(app, rule, standings, value)
                self.assertIs(caught.exception.kind, value)
        for passed in ({"acts": 1}, {"acts": 12}, {"timers": 0}, {"timers": 4}):
            self.assertIs(is_closed(app, rule, [], **passed), False)


if __name__ == "__main__":
    unittest.main()
