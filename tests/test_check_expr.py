"""[3] Words and expressions."""

import unittest

from onesession.errors import InvalidExpr, SessionError
from onesession.exprs import check_expr
from tests.samples import STRANGE, YN, YNM, copied, random_expr, sources, with_list

SLOTS = ("x", "y")
LEAF = ("slot", "x")
TABLE = ("no", "yes")
PAIR = (("yes", "no"), ("no", "no"))
TABLE3 = ("no", "may", "yes")
PAIR3 = (TABLE3, TABLE3, ("yes", "yes", "yes"))

WRONG = {
    "a wrong head": (
        ("words", "yes"), ("", "yes"), ("Word", "yes"), ("yes", "yes"), ("x", "x"), (0, "yes"), (None, "yes"),
        (True, "yes"), (("word",), "yes"), (["word"], "yes"), ({}, "yes"), ("if", TABLE, LEAF), ("maps", TABLE, LEAF),
        ("pairs", PAIR, LEAF, LEAF), (None, PAIR, LEAF, LEAF),
    ),
    "an unknown word": (
        ("word", "may"), ("word", "x"), ("word", ""), ("word", 0), ("word", None), ("word", True), ("word", ("yes",)),
        ("word", ["yes"]), ("word", {"yes": "yes"}), ("word", ("word", "yes")),
    ),
    "an unknown slot": (
        ("slot", "z"), ("slot", "yes"), ("slot", ""), ("slot", 1), ("slot", None), ("slot", False), ("slot", ("x",)),
        ("slot", ["x"]), ("slot", {}), ("slot", ("slot", "x")),
    ),
    "a wrong table of map": (
        ("map", (), LEAF), ("map", ("yes",), LEAF), ("map", ("yes", "no", "no"), LEAF), ("map", ["yes", "no"], LEAF),
        ("map", "yes", LEAF), ("map", "ab", LEAF), ("map", None, LEAF), ("map", 2, LEAF), ("map", True, LEAF),
        ("map", {"yes": "no", "no": "yes"}, LEAF), ("map", ("yes", "may"), LEAF), ("map", ("x", "no"), LEAF),
        ("map", ("yes", 0), LEAF), ("map", (None, "no"), LEAF), ("map", (True, False), LEAF),
        ("map", ("yes", ["no"]), LEAF), ("map", (("yes",), "no"), LEAF), ("map", PAIR, LEAF), ("map", LEAF, TABLE),
    ),
    "a wrong table of pair": (
        ("pair", (), LEAF, LEAF), ("pair", PAIR[:1], LEAF, LEAF), ("pair", PAIR + PAIR[:1], LEAF, LEAF),
        ("pair", list(PAIR), LEAF, LEAF), ("pair", (["yes", "no"], ("no", "no")), LEAF, LEAF),
        ("pair", (("yes", "no"), ["no", "no"]), LEAF, LEAF), ("pair", (("yes",), ("no", "no")), LEAF, LEAF),
        ("pair", (("yes", "no"), ("no", "no", "no")), LEAF, LEAF), ("pair", (("yes", "no"), ("no", "may")), LEAF, LEAF),
        ("pair", (("yes", "no"), ("no", 1)), LEAF, LEAF), ("pair", (("yes", ["no"]), ("no", "no")), LEAF, LEAF),
        ("pair", TABLE, LEAF, LEAF), ("pair", None, LEAF, LEAF), ("pair", "yes", LEAF, LEAF), ("pair", 0, LEAF, LEAF),
        ("pair", {}, LEAF, LEAF), ("pair", (PAIR, PAIR), LEAF, LEAF), ("pair", (None, ("no", "no")), LEAF, LEAF),
    ),
    "a part too few or too many": (
        ("word",), ("word", "yes", "yes"), ("word", "yes", LEAF), ("slot",), ("slot", "x", "x"), ("slot", "x", LEAF),
        ("map",), ("map", TABLE), ("map", LEAF), ("map", TABLE, LEAF, LEAF), ("pair",), ("pair", PAIR),
        ("pair", PAIR, LEAF), ("pair", PAIR, LEAF, LEAF, LEAF), (),
    ),
    "a list in the place of a tuple": (
        ["word", "yes"], ["slot", "x"], ["map", TABLE, LEAF], ["pair", PAIR, LEAF, LEAF],
    ),
    "no node": (
        "word", "slot", "x", "yes", "", 0, 1, -1, 10 ** 40, True, False, None, [], {}, {"slot": "x"}, {"word": "yes"},
        [LEAF], (LEAF,), (LEAF, LEAF),
    ),
}

# Ways to put a node somewhere, with its path there.
PLACES = (
    (lambda node: node, ()),
    (lambda node: ("map", TABLE, node), (0,)),
    (lambda node: ("pair", PAIR, node, LEAF), (0,)),
    (lambda node: ("pair", PAIR, LEAF, node), (1,)),
    (lambda node: ("map", TABLE, ("pair", PAIR, ("word", "no"), node)), (0, 1)),
    (lambda node: ("pair", PAIR, ("map", TABLE, LEAF), ("pair", PAIR, ("map", TABLE, node), LEAF)), (1, 0, 0)),
    (lambda node: chain(5, node), (0, 0, 0, 0, 0)),
    (lambda node: right_chain(5, node), (1, 1, 1, 1, 1)),
)


def chain(count, node):
    """A node within so many maps."""
    for _ in range(count):
        node = ("map", TABLE, node)
    return node


def right_chain(count, node):
    """A node as the second part of so many pairs within each other."""
    for _ in range(count):
        node = ("pair", PAIR, LEAF, node)
    return node


def wide(inner, last=LEAF):
    """A pair of two pairs, which has 12 nodes if inner is a leaf, and 13 if it is a map of a leaf."""
    left = ("pair", PAIR, chain(2, LEAF), ("pair", PAIR, LEAF, LEAF))
    return ("pair", PAIR, left, ("pair", PAIR, ("map", TABLE, inner), last))


def paths_in_order(node, path=()):
    """The list of the paths of all nodes of a right expression, in their order."""
    found = [path]
    for at, part in enumerate(node[2:]):
        found.extend(paths_in_order(part, path + (at,)))
    return found


def plainly_wrong(words, slots, node):
    """Tell whether a node has none of the four forms, asked in another way than the program does."""
    if type(node) is not tuple:
        return True
    tables = [(word,) for word in words]
    for _ in words[1:]:
        tables = [row + (word,) for row in tables for word in words]
    shape = node[:2] if len(node) > 1 else ()
    if shape in [("word", word) for word in words] + [("slot", slot) for slot in slots]:
        return len(node) != 2
    if shape in [("map", table) for table in tables]:
        return len(node) != 3
    if len(node) == 4 and node[0] == "pair" and type(node[1]) is tuple and len(node[1]) == len(words):
        return not all(row in tables for row in node[1])
    return True


def first_wrong(words, slots, node, path=(), seen=None):
    """The path of the first wrong node, or None; seen is the list of the nodes so far."""
    seen = [] if seen is None else seen
    seen.append(path)
    if len(seen) == 13 or len(path) == 6 or plainly_wrong(words, slots, node):
        return path
    for at, part in enumerate(node[2:]):
        found = first_wrong(words, slots, part, path + (at,), seen)
        if found is not None:
            return found
    return None


def spoiled(source, node):
    """An expression in which one node, at random, is replaced by something strange."""
    path = source.choice(paths_in_order(node))
    return put(node, path, source.choice(STRANGE + tuple(item for group in WRONG.values() for item in group)))


def put(node, path, item):
    """An expression with another item at a path."""
    if path == ():
        return item
    at = path[0] + 2
    return node[:at] + (put(node[at], path[1:], item),) + node[at + 1:]


class CheckExprTest(unittest.TestCase):
    def assert_wrong(self, path, value, words=YN, slots=SLOTS):
        for _ in range(2):
            with self.assertRaises(InvalidExpr, msg=repr(value)) as caught:
                check_expr(words, slots, value)
            self.assertEqual(caught.exception.path, path, value)
            self.assertIs(type(caught.exception.path), tuple)
            self.assertFalse(any(isinstance(item, bool) for item in caught.exception.path))

    def assert_right(self, value, words=YN, slots=SLOTS):
        for _ in range(2):
            self.assertIsNone(check_expr(words, slots, value))

    def test_the_four_forms_with_two_words(self):
        for word in YN:
            self.assert_right(("word", word))
        for slot in SLOTS:
            self.assert_right(("slot", slot))
        self.assert_right(("map", TABLE, LEAF))
        self.assert_right(("map", ("yes", "yes"), ("word", "no")))
        self.assert_right(("pair", PAIR, LEAF, ("slot", "y")))
        self.assert_right(("pair", PAIR, ("map", TABLE, LEAF), ("pair", PAIR, LEAF, LEAF)))

    def test_the_four_forms_with_three_words(self):
        for word in YNM:
            self.assert_right(("word", word), YNM)
        self.assert_right(("slot", "y"), YNM)
        self.assert_right(("map", TABLE3, LEAF), YNM)
        self.assert_right(("pair", PAIR3, LEAF, ("map", TABLE3, LEAF)), YNM)

    def test_tables_have_as_many_words_as_there_are(self):
        self.assert_wrong((), ("map", TABLE, LEAF), YNM)
        self.assert_wrong((), ("map", TABLE3, LEAF), YN)
        self.assert_wrong((), ("pair", PAIR, LEAF, LEAF), YNM)
        self.assert_wrong((), ("pair", PAIR3, LEAF, LEAF), YN)
        self.assert_wrong((), ("pair", PAIR3[:2] + (TABLE,), LEAF, LEAF), YNM)

    def test_without_slots_there_are_words_alone(self):
        self.assert_right(("map", TABLE, ("word", "yes")), YN, ())
        self.assert_wrong((), LEAF, YN, ())
        self.assert_wrong((0,), ("map", TABLE, LEAF), YN, ())

    def test_a_word_may_be_called_as_a_slot_or_a_head(self):
        self.assert_right(("word", "word"), ("word", "slot"), ("word",))
        self.assert_right(("slot", "word"), ("word", "slot"), ("word",))
        self.assert_wrong((), ("slot", "slot"), ("word", "slot"), ("word",))

    def test_every_wrong_node_at_every_place(self):
        for why, nodes in WRONG.items():
            for node in nodes:
                for placed, path in PLACES:
                    with self.subTest(why, node=node, path=path):
                        self.assert_wrong(path, placed(node))

    def test_any_value_in_the_place_of_a_node(self):
        for node in STRANGE:
            if node != ("slot", "x"):
                for placed, path in PLACES:
                    self.assert_wrong(path, placed(node))

    def test_a_list_in_the_place_of_any_tuple(self):
        expr = ("pair", PAIR, ("map", TABLE, LEAF), ("pair", PAIR, ("word", "no"), LEAF))
        self.assert_right(expr)
        for value in with_list(expr):
            self.assert_wrong(first_wrong(YN, SLOTS, value), value)

    def test_the_first_of_several_wrong_nodes(self):
        bad = ("word", "may")
        self.assert_wrong((), ("map", ("yes",), bad))
        self.assert_wrong((), ("pair", PAIR[:1], bad, bad))
        self.assert_wrong((0,), ("pair", PAIR, bad, bad))
        self.assert_wrong((0, 0), ("pair", PAIR, ("map", TABLE, bad), bad))
        self.assert_wrong((0, 1), ("pair", PAIR, ("pair", PAIR, LEAF, bad), ("map", (), bad)))
        self.assert_wrong((1,), ("pair", PAIR, chain(4, LEAF), ("map", (), bad)))
        self.assert_wrong((1, 0), ("pair", PAIR, LEAF, ("pair", PAIR, bad, bad)))

    def test_six_deep_is_right_and_seven_deep_is_not(self):
        for leaf in (LEAF, ("word", "yes")):
            self.assert_right(chain(5, leaf))
            self.assert_right(right_chain(5, leaf))
            self.assert_wrong((0,) * 6, chain(6, leaf))
        self.assert_wrong((0,) * 6, chain(20, LEAF))
        self.assert_wrong((0,) * 6, chain(6, ("word", "may")))
        self.assert_wrong((0,) * 5, chain(5, ("word", "may")))
        self.assert_wrong((1,) + (0,) * 5, ("pair", PAIR, LEAF, chain(5, LEAF)))

    def test_seven_deep_comes_in_the_order_of_the_nodes(self):
        deep = chain(5, LEAF)
        self.assert_wrong((0,) * 6, ("pair", PAIR, deep, ("word", "may")))
        self.assert_wrong((0,), ("pair", PAIR, ("word", "may"), deep))

    def test_twelve_nodes_are_right_and_the_thirteenth_is_not(self):
        twelve = wide(LEAF)
        self.assertEqual(len(paths_in_order(twelve)), 12)
        self.assert_right(twelve)
        thirteen = wide(("map", TABLE, LEAF))
        self.assertEqual(len(paths_in_order(thirteen)), 13)
        self.assert_wrong(paths_in_order(thirteen)[12], thirteen)
        self.assert_wrong((1, 1), thirteen)
        self.assert_wrong((1, 1), wide(("map", TABLE, LEAF), last=("word", "may")))
        self.assert_wrong((1, 1), wide(("map", TABLE, LEAF), last=("map", TABLE, ("word", "may"))))

    def test_a_wrong_node_ahead_of_the_thirteenth_is_told_first(self):
        self.assert_wrong((1, 0, 0, 0), wide(("map", TABLE, ("word", "may"))))
        self.assert_wrong((1, 0, 0), wide(("map", (), LEAF)))

    def test_the_thirteenth_node_in_many_shapes(self):
        for source in sources(300):
            expr = random_expr(source, YN, SLOTS, nodes=30, depth=6)
            paths = paths_in_order(expr)
            if len(paths) > 12:
                self.assert_wrong(paths[12], expr)
            else:
                self.assert_right(expr)

    def test_many_values_against_a_plain_search(self):
        for source in sources(1500):
            words = source.choice((YN, YNM))
            expr = random_expr(source, words, SLOTS, nodes=source.randint(1, 16), depth=source.randint(1, 8))
            for _ in range(source.randint(0, 2)):
                if first_wrong(words, SLOTS, expr) in (None, (0,) * 6):
                    expr = spoiled(source, expr)
            path = first_wrong(words, SLOTS, expr)
            if path is None:
                self.assert_right(expr, words)
            else:
                self.assert_wrong(path, expr, words)

    def test_deep_values_are_no_reason_to_fail(self):
        for kind in (list, tuple):
            value = "x"
            for _ in range(20):
                value = kind([value])
            self.assert_wrong((), value)
            self.assert_wrong((0,), ("map", TABLE, value))
            self.assert_wrong((), ("map", value, LEAF))
            self.assert_wrong((), ("word", value))

    def test_large_values_are_no_reason_to_fail(self):
        for value in (10 ** 3999, -10 ** 3999, "x" * 4000, "~ \n" * 1000, ("yes",) * 100000):
            self.assert_wrong((), value)
            self.assert_wrong((), ("word", value))
            self.assert_wrong((), ("map", value, LEAF))
            self.assert_wrong((0,), ("map", TABLE, value))

    def test_the_value_stays_as_it_was(self):
        value = ("pair", PAIR, ["slot", "x"], {"a": [1, 2]})
        before = copied(value)
        self.assert_wrong((0,), value)
        self.assertEqual(value, before)

    def test_the_error_is_one_of_the_program(self):
        self.assertRaises(SessionError, check_expr, YN, SLOTS, None)


if __name__ == "__main__":
    unittest.main()
