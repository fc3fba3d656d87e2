"""[4] Values of expressions."""

import itertools
import unittest

from onesession.exprs import first_unlike, matters, reads, value
from tests.samples import BOTH, NOT_X, X, Y, YN, YNM, copied, random_expr, sources

Z = ("slot", "z")
OTHER = ("no", "yes")
AND = (("yes", "no"), ("no", "no"))
UNDONE = ("map", OTHER, ("map", OTHER, X))
# The word of the first part alone: the rows have no unlike words in themselves.
FIRST = (("yes", "yes"), ("no", "no"))
SECOND = (("yes", "no"), ("yes", "no"))


def all_given(words, slots):
    return [tuple(zip(slots, row)) for row in itertools.product(words, repeat=len(slots))]


def plain_value(words, expr, given):
    """The word of an expression, by the words of the document."""
    if expr[0] in ("word", "slot"):
        return expr[1] if expr[0] == "word" else [word for slot, word in given if slot == expr[1]][0]
    places = [words.index(plain_value(words, part, given)) for part in expr[2:]]
    found = expr[1]
    for place in places:
        found = found[place]
    return found


def plain_reads(expr):
    if expr[0] == "slot":
        return [expr[1]]
    return list(dict.fromkeys(slot for part in expr[2:] for slot in plain_reads(part)))


class ValueTest(unittest.TestCase):
    def test_a_word(self):
        for words in (YN, YNM):
            for word in words:
                self.assertEqual(value(words, ("word", word), ()), word)
                self.assertEqual(value(words, ("word", word), (("x", "no"),)), word)

    def test_a_slot(self):
        for word in YNM:
            self.assertEqual(value(YNM, X, (("x", word),)), word)
            self.assertEqual(value(YNM, X, (("y", "no"), ("x", word), ("z", "may"))), word)

    def test_a_map(self):
        self.assertEqual([value(YN, NOT_X, (("x", word),)) for word in YN], ["no", "yes"])
        table = ("may", "yes", "yes")
        self.assertEqual([value(YNM, ("map", table, X), (("x", word),)) for word in YNM], list(table))

    def test_a_pair(self):
        rows = (("yes", "no", "may"), ("no", "no", "yes"), ("may", "may", "no"))
        for at, first in enumerate(YNM):
            for place, second in enumerate(YNM):
                given = (("x", first), ("y", second))
                self.assertEqual(value(YNM, ("pair", rows, X, Y), given), rows[at][place])
                self.assertEqual(value(YNM, ("pair", rows, Y, X), given), rows[place][at])

    def test_parts_within_parts(self):
        expr = ("pair", AND, ("map", OTHER, X), ("pair", AND, Y, ("word", "yes")))
        found = [value(YN, expr, given) for given in all_given(YN, ("x", "y"))]
        self.assertEqual(found, ["no", "no", "yes", "no"])

    def test_many_against_a_plain_value(self):
        for source in sources(300):
            words = source.choice((YN, YNM))
            expr = random_expr(source, words, ("x", "y", "z"))
            given = tuple((slot, source.choice(words)) for slot in source.sample(("x", "y", "z", "other"), 4))
            self.assertEqual(value(words, expr, given), plain_value(words, expr, given))
            self.assertEqual(value(words, expr, given), value(words, expr, given))


class ReadsTest(unittest.TestCase):
    def test_the_order_of_first_standing(self):
        self.assertEqual(reads(("word", "yes")), ())
        self.assertEqual(reads(X), ("x",))
        self.assertEqual(reads(BOTH), ("x", "y"))
        self.assertEqual(reads(("pair", AND, Y, X)), ("y", "x"))
        self.assertEqual(reads(("pair", AND, ("pair", AND, Z, X), ("pair", AND, X, ("map", OTHER, Y)))), ("z", "x", "y"))
        self.assertEqual(reads(("pair", AND, X, X)), ("x",))
        self.assertEqual(reads(("map", ("yes", "yes"), X)), ("x",))

    def test_many_against_a_plain_list(self):
        for source in sources(300):
            expr = random_expr(source, YNM, ("a", "b", "c", "d", "e"))
            self.assertEqual(reads(expr), tuple(plain_reads(expr)))


class MattersTest(unittest.TestCase):
    def test_slots_that_make_a_difference(self):
        self.assertEqual(matters(YN, X), ("x",))
        self.assertEqual(matters(YN, BOTH), ("x", "y"))
        self.assertEqual(matters(YN, ("pair", AND, Y, X)), ("y", "x"))
        self.assertEqual(matters(YN, ("word", "yes")), ())

    def test_a_table_with_equal_words_or_rows(self):
        self.assertEqual(matters(YN, ("map", ("no", "no"), X)), ())
        self.assertEqual(matters(YN, ("pair", FIRST, X, Y)), ("x",))
        self.assertEqual(matters(YN, ("pair", SECOND, X, Y)), ("y",))
        self.assertEqual(matters(YN, ("pair", (("no", "no"), ("no", "no")), X, Y)), ())

    def test_a_map_that_undoes_another(self):
        self.assertEqual(matters(YN, UNDONE), ("x",))
        self.assertEqual(matters(YNM, ("map", ("yes", "yes", "no"), ("map", ("yes", "no", "yes"), X))), ())
        same = ("pair", (("yes", "no"), ("no", "yes")), X, UNDONE)
        self.assertEqual(reads(same), ("x",))
        self.assertEqual(matters(YN, same), ())
        self.assertEqual(matters(YN, ("pair", AND, same, Y)), ("y",))

    def test_a_difference_between_two_words_that_are_not_right(self):
        self.assertEqual(matters(YNM, ("map", ("yes", "yes", "no"), X)), ("x",))
        self.assertEqual(matters(YNM, ("map", ("yes", "no", "yes"), X)), ("x",))
        self.assertEqual(matters(YNM, ("map", ("no", "yes", "yes"), X)), ("x",))

    def test_a_difference_with_one_word_of_the_other_slots_alone(self):
        rows = (("no", "no", "no"), ("no", "no", "no"), ("no", "no", "yes"))
        self.assertEqual(matters(YNM, ("pair", rows, X, Y)), ("x", "y"))

    def test_many_against_the_words_of_the_document(self):
        for source in sources(150):
            words = source.choice((YN, YNM))
            expr = random_expr(source, words, ("x", "y", "z"))
            slots = reads(expr)
            every = all_given(words, slots)
            expected = []
            for at, slot in enumerate(slots):
                rest = [(one, two) for one in every for two in every if one[:at] + one[at + 1:] == two[:at] + two[at + 1:]]
                if any(plain_value(words, expr, one) != plain_value(words, expr, two) for one, two in rest):
                    expected.append(slot)
            self.assertEqual(matters(words, expr), tuple(expected))

    def test_seven_slots(self):
        expr = X
        for slot in ("a", "b", "c", "d", "e", "f"):
            expr = ("pair", (("yes", "no", "may"), ("no", "no", "may"), ("may", "yes", "no")), expr, ("slot", slot))
        self.assertEqual(reads(expr), ("x", "a", "b", "c", "d", "e", "f"))
        self.assertEqual(matters(YNM, expr), ("x", "a", "b", "c", "d", "e", "f"))


class FirstUnlikeTest(unittest.TestCase):
    def test_expressions_that_are_never_told_apart(self):
        self.assertIsNone(first_unlike(YN, X, X))
        self.assertIsNone(first_unlike(YN, X, UNDONE))
        self.assertIsNone(first_unlike(YN, ("word", "no"), ("map", ("no", "no"), Y)))
        self.assertIsNone(first_unlike(YN, ("word", "no"), ("word", "no")))
        self.assertIsNone(first_unlike(YN, BOTH, ("pair", AND, Y, X)))

    def test_without_slots_the_first_given_words_are_none(self):
        self.assertEqual(first_unlike(YN, ("word", "no"), ("word", "yes")), ())

    def test_the_first_given_words_in_their_order(self):
        self.assertEqual(first_unlike(YN, X, NOT_X), (("x", "yes"),))
        self.assertEqual(first_unlike(YN, X, ("word", "yes")), (("x", "no"),))
        self.assertEqual(first_unlike(YN, BOTH, ("word", "yes")), (("x", "yes"), ("y", "no")))
        self.assertEqual(first_unlike(YN, BOTH, X), (("x", "yes"), ("y", "no")))
        self.assertEqual(first_unlike(YN, BOTH, Y), (("x", "no"), ("y", "yes")))
        self.assertEqual(first_unlike(YNM, X, ("map", ("yes", "no", "yes"), X)), (("x", "may"),))

    def test_the_order_of_the_slots(self):
        self.assertEqual(first_unlike(YN, X, Y), (("x", "yes"), ("y", "no")))
        self.assertEqual(first_unlike(YN, Y, X), (("y", "yes"), ("x", "no")))
        other = ("pair", AND, Z, ("pair", AND, X, Y))
        self.assertEqual(first_unlike(YN, X, other), (("x", "yes"), ("z", "yes"), ("y", "no")))
        self.assertEqual(first_unlike(YN, other, X), (("z", "yes"), ("x", "yes"), ("y", "no")))
        self.assertEqual(first_unlike(YN, ("pair", FIRST, X, Y), X), None)
        self.assertEqual(first_unlike(YN, ("pair", FIRST, X, Y), Z), (("x", "yes"), ("y", "yes"), ("z", "no")))

    def test_the_order_is_that_of_the_words_and_not_of_letters(self):
        words = ("no", "yes")
        self.assertEqual(first_unlike(words, X, ("map", ("yes", "no"), X)), (("x", "no"),))
        self.assertEqual(first_unlike(words, X, Y), (("x", "no"), ("y", "yes")))

    def test_many_against_the_words_of_the_document(self):
        for source in sources(200):
            words = source.choice((YN, YNM))
            one = random_expr(source, words, ("x", "y", "z"), nodes=6)
            two = random_expr(source, words, ("y", "z", "w"), nodes=source.randint(1, 6))
            slots = list(dict.fromkeys(list(reads(one)) + list(reads(two))))
            unlike = [given for given in all_given(words, slots)
                      if plain_value(words, one, given) != plain_value(words, two, given)]
            self.assertEqual(first_unlike(words, one, two), unlike[0] if unlike else None)

    def test_what_is_passed_stays_as_it_was(self):
        passed = (YN, BOTH, ("pair", AND, Y, X), (("x", "yes"), ("y", "no")))
        before = copied(passed)
        words, expr, other, given = passed
        value(words, expr, given)
        reads(expr)
        matters(words, expr)
        first_unlike(words, expr, other)
        self.assertEqual(passed, before)


if __name__ == "__main__":
    unittest.main()
