"""What holds in each state of an app: its words, calls, guards and listed words."""

from onesession.basics import all_rows
from onesession.exprs import reads, value


def all_moments(app):
    """Return the dict of the moments of all states (inputs, editions), in the order of the states."""
    inputs = all_rows([app.words for _ in app.inputs])
    editions = all_rows([list(range(count)) for _, count in app.modules])
    return {(row, numbers): moment_of(app, row, numbers) for row in inputs for numbers in editions}


def moment_of(app, inputs, editions):
    """Return the moment of a state: a dict of what holds in it.

    "given" are the words of inputs and made slots, "calls" those of the late slots, "row calls"
    that of the late slot of rows for each word of a row, "dues" and "row dues" the words to which
    these calls lead, "letting" tells of each page whether its guard lets, "handler calls",
    "outcomes" and "listed" have the call, its word and the listed words of each handler.
    """
    numbers = dict(zip(app.module_names, editions))
    given = given_now(app, inputs, numbers)
    words = dict(given)
    calls = {slot: call_of(exprs, numbers[module], words) for slot, module, exprs in app.late}
    row_calls = row_calls_now(app, numbers, words)
    handler_calls = {item[0]: call_of(item[4], numbers[item[1]], words) for item in app.handlers}
    return {
        "given": given,
        "calls": calls,
        "row calls": row_calls,
        "dues": {slot: word_called(app, exprs, calls[slot]) for slot, _, exprs in app.late},
        "row dues": {word: word_called(app, app.rows[4], row_calls[word]) for word in row_calls},
        "letting": {name: guard_lets(app, guard, numbers, given) for name, _, guard in app.pages},
        "handler calls": handler_calls,
        "outcomes": {item[0]: word_called(app, item[4], handler_calls[item[0]]) for item in app.handlers},
        "listed": {item[0]: tuple([words[slot] for slot in item[5]]) for item in app.handlers},
    }


def given_now(app, inputs, numbers):
    """Return the given words of inputs and made slots; numbers are the editions of the modules."""
    given = tuple(zip(app.input_names, inputs))
    for slot, module, exprs in app.made:
        given = given + ((slot, value(app.words, exprs[numbers[module]], given)),)
    return given


def call_of(exprs, edition, words):
    """Return the call of the expression of an edition, where a dict has the words of the slots."""
    return (edition, tuple([(slot, words[slot]) for slot in reads(exprs[edition])]))


def word_called(app, exprs, call):
    """Return the word to which a call of one of these expressions leads."""
    edition, given = call
    return value(app.words, exprs[edition], given)


def row_calls_now(app, numbers, words):
    """Return the dict of the calls of the late slot of rows for each word of a row."""
    if app.rows is None:
        return {}
    slot, _, _, module, exprs = app.rows
    return {word: call_of(exprs, numbers[module], {**words, slot: word}) for word in app.words}


def guard_lets(app, guard, numbers, given):
    """Tell whether a guard, which may be None, lets."""
    if guard is None:
        return True
    module, exprs = guard
    return value(app.words, exprs[numbers[module]], given) == app.right
