"""Small questions and lists that several files need."""

LETTERS = "abcdefghijklmnopqrstuvwxyz"
LONGEST_NAME = 8


def is_integer(value):
    """Tell whether a value is an int; True and False are flags, not integers."""
    return isinstance(value, int) and not isinstance(value, bool)


def is_below(value, bound):
    """Tell whether a value is an integer from 0 up to the bound, without the bound itself."""
    return is_integer(value) and 0 <= value < bound


def is_name(value):
    """Tell whether a value is a string of 1 to 8 letters from "a" to "z"."""
    if not isinstance(value, str) or not 1 <= len(value) <= LONGEST_NAME:
        return False
    return all([letter in LETTERS for letter in value])


def is_choice(known, value):
    """Tell whether a value is a tuple of distinct items of the known ones."""
    # The length is asked first, so that a long tuple is not compared with itself item by item.
    if not isinstance(value, tuple) or len(value) > len(known):
        return False
    return all([item in known and item not in value[:at] for at, item in enumerate(value)])


def names_of(items):
    """Return the first parts of the items of a part of an app, which are their names."""
    return tuple([item[0] for item in items])


def all_rows(columns):
    """Return all tuples with one item of each column, the last column changing fastest."""
    rows = [()]
    for column in columns:
        rows = [row + (item,) for row in rows for item in column]
    return rows


def replaced(items, at, item):
    """Return the tuple of the items with another one at a position."""
    return items[:at] + (item,) + items[at + 1:]


def without(items, at):
    """Return the tuple of the items without the one at a position."""
    return items[:at] + items[at + 1:]
