"""Expressions over words and slots: which values are some, and the words that they have."""

from onesession.basics import all_rows
from onesession.errors import InvalidExpr

MOST_NODES = 12
DEEPEST = 6


def check_expr(words, slots, value):
    """Return None if the value is an expression, and raise InvalidExpr otherwise."""
    path = wrong_path(words, slots, value)
    if path is not None:
        raise InvalidExpr(path)


def wrong_path(words, slots, expr):
    """Return the path of the first wrong node, or None if there is none."""
    left = [((), expr)]
    count = 0
    while left:
        path, node = left.pop()
        count += 1
        if count > MOST_NODES or len(path) >= DEEPEST or not has_form(words, slots, node):
            return path
        parts = parts_of(node)
        for at in reversed(range(len(parts))):
            left.append((path + (at,), parts[at]))
    return None


def has_form(words, slots, node):
    """Tell whether a node has one of the four forms, whatever its parts are."""
    if not isinstance(node, tuple) or len(node) < 2:
        return False
    head = node[0]
    if head == "word":
        return len(node) == 2 and node[1] in words
    if head == "slot":
        return len(node) == 2 and node[1] in slots
    if head == "map":
        return len(node) == 3 and is_table(words, node[1])
    if head == "pair":
        return len(node) == 4 and is_pair_table(words, node[1])
    return False


def is_table(words, table):
    """Tell whether a value is a tuple with one word for each word."""
    if not isinstance(table, tuple) or len(table) != len(words):
        return False
    return all([word in words for word in table])


def is_pair_table(words, table):
    """Tell whether a value is a tuple with one table for each word."""
    if not isinstance(table, tuple) or len(table) != len(words):
        return False
    return all([is_table(words, row) for row in table])


def parts_of(node):
    """Return the tuple of the expressions that a node has as its parts."""
    # "word" and "slot" have no third item, and the others have their parts from there on.
    return node[2:]


def value(words, expr, given):
    """Return the word that an expression has if its slots have the given words."""
    return word_of(words, expr, dict(given))


def word_of(words, expr, table):
    """Return the word of an expression, where a dict has the words of the slots."""
    head = expr[0]
    if head == "word":
        return expr[1]
    if head == "slot":
        return table[expr[1]]
    row = expr[1][words.index(word_of(words, expr[2], table))]
    if head == "map":
        return row
    return row[words.index(word_of(words, expr[3], table))]


def reads(expr):
    """Return the slots that stand in an expression, each once, in their order."""
    found = []
    left = [expr]
    while left:
        node = left.pop()
        if node[0] == "slot" and node[1] not in found:
            found.append(node[1])
        left.extend(parts_of(node)[::-1])
    return tuple(found)


def matters(words, expr):
    """Return the slots of an expression that can make a difference to its word."""
    slots = reads(expr)
    found = {given: value(words, expr, given) for given in all_given(words, slots)}
    return tuple([slot for at, slot in enumerate(slots) if makes_difference(words, found, at)])


def makes_difference(words, found, at):
    """Tell whether the word at a position alone makes a difference to the words that were found."""
    # If two words of this slot are unlike, one of them is unlike that of the right word, too.
    for given in found:
        slot = given[at][0]
        with_right = given[:at] + ((slot, words[0]),) + given[at + 1:]
        if found[given] != found[with_right]:
            return True
    return False


def first_unlike(words, expr, other):
    """Return the first given words with which two expressions have unlike words, or None."""
    slots = reads(expr)
    slots = slots + tuple([slot for slot in reads(other) if slot not in slots])
    for given in all_given(words, slots):
        if value(words, expr, given) != value(words, other, given):
            return given
    return None


def all_given(words, slots):
    """Return the list of all given words of some slots, in their order."""
    return all_rows([[(slot, word) for word in words] for slot in slots])
