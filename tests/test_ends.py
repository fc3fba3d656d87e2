"""[25]: where deeds can end, wherever the landings fall."""

import unittest

from onesession.apps import App
from onesession.errors import BadJournal, InvalidBound, LimitExceeded
from onesession.journal import ends, play, prompt
from onesession.rules import Rule
from onesession.running import begin, step
from onesession.screens import due_screen, screen
from tests.samples import NOT_X, STRANGE, X, Y, YN, copied, full_app, interface_app, random_app, random_deed, random_rule
from tests.samples import sources

HOME = (("home", ("d",), None),)
SET = (("set", "x", "no"),)


def one_slot(exprs=(X,)):
    """An app with one page that needs one late slot."""
    return App(YN, (("m", 1),), (("x", "yes"),), HOME, late=(("d", "m", exprs),))


def two_slots():
    """An app with one page that needs two late slots."""
    late = (("d", "m", (X,)), ("e", "m", (Y,)))
    return App(YN, (("m", 1),), (("x", "yes"), ("y", "yes")), (("home", ("d", "e"), None),), late=late)


def rows_of(app, rule, deeds):
    """The rows of standings as the document tells them, by lists alone."""
    row = complete(app, rule, [begin(app, rule).standing])
    rows = [row]
    for deed in deeds:
        following = []
        for standing in row:
            behind = step(app, rule, standing, deed).standing
            if behind not in following:
                following.append(behind)
        row = complete(app, rule, following)
        rows.append(row)
    return rows


def complete(app, rule, row):
    """A row with all standings to which landings lead."""
    row = list(row)
    for standing in row:
        for number in range(len(standing[6])):
            behind = step(app, rule, standing, ("land", number)).standing
            if behind not in row:
                row.append(behind)
    return row


def screens_of(app, rule, row):
    """The screens of the standings of a row that have no acts."""
    found = []
    for standing in row:
        if not standing[6] and screen(app, rule, standing) not in found:
            found.append(screen(app, rule, standing))
    return found


class EndsTest(unittest.TestCase):
    def test_no_deeds(self):
        app, rule = one_slot(), Rule()
        self.assertEqual(ends(app, rule, ()), [("home", None, ("yes",), (), (("d", ("yes",)),))])
        self.assertEqual(ends(app, rule, []), ends(app, rule, ()))

    def test_one_end_if_words_are_compared(self):
        self.assertEqual(ends(one_slot(), Rule(), SET), [("home", None, ("no",), (), (("d", ("no",)),))])

    def test_two_ends_if_nothing_is_compared(self):
        told = ends(one_slot(), Rule(words=False), SET)
        self.assertEqual([shown[4] for shown in told], [(("d", ("no",)),), (("d", ("yes",)),)])
        self.assertEqual(ends(one_slot(), Rule(words=False), list(SET)), told)

    def test_the_order_of_the_rows(self):
        # Behind the first two, which follow on those of the first row, stands where the later act lands first.
        app, rule = one_slot(), Rule(words=False)
        row = rows_of(app, rule, SET)[-1]
        self.assertEqual([(standing[5][0][0], len(standing[6])) for standing in row],
                         [(None, 2), ("yes", 1), ("no", 1), ("no", 0), ("yes", 0)])

    def test_equal_screens_stand_there_once(self):
        # The late word is not to be seen on a page that does not need it.
        pages = (("home", (), None),)
        app = App(YN, (("m", 1),), (("x", "yes"),), pages, late=(("d", "m", (X,)),))
        rule = Rule(words=False)
        self.assertEqual(ends(app, rule, SET), [("home", None, ("no",), (), ())])
        self.assertGreater(len([standing for standing in rows_of(app, rule, SET)[-1] if not standing[6]]), 1)

    def test_against_the_lists(self):
        many = 0
        for number, source in enumerate(sources(200)):
            fixed = {"words": False, "again": "change", "one": "many", "newest": False} if number % 2 else {}
            app, rule = random_app(source), random_rule(source, **fixed)
            deeds = []
            standing = begin(app, rule).standing
            while len(deeds) < 4:
                deed = random_deed(source, app, standing)
                if deed[0] != "land":
                    deeds.append(deed)
                    standing = step(app, rule, standing, deed).standing
            kept = copied(deeds)
            rows = rows_of(app, rule, deeds)
            told = ends(app, rule, deeds, limit=max(len(row) for row in rows))
            self.assertEqual(told, screens_of(app, rule, rows[-1]))
            self.assertEqual(deeds, kept)
            many += len(told) > 1
        self.assertGreater(many, 5)

    def test_a_new_list_each_time(self):
        app, rule = one_slot(), Rule(words=False)
        told = ends(app, rule, SET)
        self.assertIs(type(told), list)
        told.clear()
        self.assertEqual(len(ends(app, rule, SET)), 2)


class LimitTest(unittest.TestCase):
    def test_as_many_as_the_limit(self):
        app, rule = two_slots(), Rule(words=False)
        deeds = (("set", "x", "no"), ("set", "y", "no"))
        for number in range(3):
            most = max(len(row) for row in rows_of(app, rule, deeds[:number]))
            self.assertEqual(ends(app, rule, deeds[:number], limit=most), ends(app, rule, deeds[:number]))
            for limit in {1, most // 2, most - 1}:
                with self.assertRaises(LimitExceeded) as caught:
                    ends(app, rule, deeds[:number], limit=limit)
                self.assertEqual(caught.exception.limit, limit)

    def test_the_first_row_counts(self):
        app, rule = two_slots(), Rule(words=False)
        self.assertEqual(len(rows_of(app, rule, ())[0]), 4)
        with self.assertRaises(LimitExceeded):
            ends(app, rule, (), limit=3)
        self.assertEqual(len(ends(app, rule, (), limit=4)), 1)

    def test_one_standing_is_not_too_many(self):
        app, rule = interface_app(), Rule(ask="needed")
        self.assertEqual(len(ends(app, rule, (("set", "x", "no"),), limit=1)), 1)

    def test_the_default_limit(self):
        app, rule = two_slots(), Rule(words=False)
        deeds = [("set", slot, word) for word in ("no", "yes", "no", "yes") for slot in ("x", "y")][:7]
        sizes = [len(row) for row in rows_of(app, rule, deeds)]
        self.assertLess(sizes[6], 1000)
        self.assertGreater(sizes[7], 1000)
        self.assertEqual(len(ends(app, rule, deeds[:6])), 4)
        with self.assertRaises(LimitExceeded) as caught:
            ends(app, rule, deeds)
        self.assertEqual(caught.exception.limit, 1000)
        self.assertEqual(len(ends(app, rule, deeds, limit=sizes[7])), 4)
        with self.assertRaises(LimitExceeded):
            ends(app, rule, deeds, limit=sizes[7] - 1)

    def test_wrong_limits(self):
        app, rule = one_slot(), Rule()
        for limit in [value for value in STRANGE if not (type(value) is int and value >= 1)] + ["1", [1], (1,), -5]:
            kept = copied(limit)
            with self.assertRaises(InvalidBound) as caught:
                ends(app, rule, SET, limit=limit)
            self.assertEqual(repr(caught.exception.value), repr(kept))

    def test_a_wrong_journal_comes_first(self):
        for limit in (0, True, None, 1, 1000):
            for value in [*STRANGE, ("land", 0), ("land", 3), ("set", "x"), ["set", "x", "no"]]:
                for kind in (tuple, list):
                    for at, deeds in ((0, kind((value,) + SET)), (1, kind(SET + (value,)))):
                        with self.assertRaises(BadJournal) as caught:
                            ends(one_slot(), Rule(), deeds, limit=limit)
                        self.assertEqual(caught.exception.index, at)

    def test_a_wrong_limit_comes_ahead_of_the_rows(self):
        with self.assertRaises(InvalidBound):
            ends(full_app(), Rule(words=False), SET, limit=0)


class FactTest(unittest.TestCase):
    def test_one_end_that_is_due(self):
        kinds = ({"again": "match"}, {"ask": "eager", "one": "one"}, {"ask": "eager", "newest": True},
                 {"ask": "eager", "words": True, "code": True})
        seen = 0
        for number, fixed in enumerate(kinds):
            for source in sources(60, start=1000 * number):
                app, rule = random_app(source), random_rule(source, turn="once", **fixed)
                app = App(app.words, app.modules, app.inputs, app.pages, made=app.made, late=app.late, rows=app.rows,
                          handlers=tuple(item[:6] + ("now",) for item in app.handlers), form=app.form)
                deeds = []
                standing = begin(app, rule).standing
                while len(deeds) < 4:
                    deed = random_deed(source, app, standing)
                    if deed[0] not in ("land", "reopen"):
                        deeds.append(deed)
                        standing = step(app, rule, standing, deed).standing
                last = play(app, rule, prompt(app, rule, deeds))[-1]
                told = ends(app, rule, deeds, limit=10 ** 5)
                self.assertEqual(told, [screen(app, rule, last.standing)])
                self.assertEqual(told, [due_screen(app, rule, last.standing)])
                seen += len(rows_of(app, rule, deeds)[-1]) > 2
        self.assertGreater(seen, 50)

    def test_a_late_slot_that_reads_nothing(self):
        app = one_slot((("word", "no"),))
        self.assertEqual(ends(app, Rule(words=False, code=False), SET * 2), [("home", None, ("no",), (), (("d", ("no",)),))])
        self.assertEqual(len(ends(one_slot((NOT_X,)), Rule(words=False), SET)), 2)


if __name__ == "__main__":
    unittest.main()
