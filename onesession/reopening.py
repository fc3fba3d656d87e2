"""What is kept of a session when it is closed, and sessions that are closed and opened again."""

from onesession.basics import is_below, is_integer
from onesession.deeds import IDS
from onesession.errors import NotSaved
from onesession.exprs import reads
from onesession.journal import check_deeds
from onesession.running import begin, step, walked
from onesession.standings import ACTS, EDITIONS, INPUTS, RECORDS, ROWS, calls_there, dues_there, instances

NOTHING = (None, None, None)


def saved(app, rule, standing):
    """Return what is kept when a session is closed in a standing."""
    kept = ()
    if rule.saves == "records":
        kept = standing[RECORDS]
    if rule.saves == "values":
        kept = tuple([(word, made) for word, _, made in standing[RECORDS]])
    return (standing[INPUTS], standing[ROWS], kept)


def is_saved(app, rule, value):
    """Tell whether a value can be kept under a rule."""
    if not isinstance(value, tuple) or len(value) != 3:
        return False
    inputs, rows, kept = value
    return are_inputs(app, inputs) and are_rows(app, rows) and are_kept(app, rule, len(rows), kept)


def are_inputs(app, value):
    """Tell whether a value is a tuple with a word for each input."""
    if not isinstance(value, tuple) or len(value) != len(app.inputs):
        return False
    return all([word in app.words for word in value])


def are_rows(app, value):
    """Tell whether a value is a tuple of rows of an app."""
    if app.rows is None:
        return value == ()
    if not isinstance(value, tuple) or not all([is_row(app, row) for row in value]):
        return False
    # There are three ids, so distinct ones are at most three.
    ids = [row[0] for row in value]
    return all([ids.count(row) == 1 for row in ids])


def is_row(app, value):
    """Tell whether a value is a pair of an id and a word."""
    if not isinstance(value, tuple) or len(value) != 2:
        return False
    return is_integer(value[0]) and value[0] in IDS and value[1] in app.words


def are_kept(app, rule, many, value):
    """Tell whether a value can be kept of the records, where there are so many rows."""
    if rule.saves == "nothing":
        return value == ()
    # Where there are rows, the last late slot is theirs.
    slots = app.late_names + app.late_slots[-1:] * many
    if not isinstance(value, tuple) or len(value) != len(slots):
        return False
    return all([is_kept(app, rule, slot, item) for slot, item in zip(slots, value)])


def is_kept(app, rule, slot, value):
    """Tell whether a value can be kept of a record of a slot."""
    size = 3 if rule.saves == "records" else 2
    if not isinstance(value, tuple) or len(value) != size:
        return False
    if size == 3 and value[1] is not None and not is_call(app, slot, value[1]):
        return False
    word, made = value[0], value[-1]
    if word is None:
        return made is None
    return word in app.words and is_call(app, slot, made)


def is_call(app, slot, value):
    """Tell whether a value is a call of a slot."""
    if not isinstance(value, tuple) or len(value) != 2:
        return False
    edition, given = value
    _, exprs = app.exprs_of(slot)
    if not is_below(edition, len(exprs)) or not isinstance(given, tuple):
        return False
    slots = reads(exprs[edition])
    return len(given) == len(slots) and all([is_given(app, name, pair) for name, pair in zip(slots, given)])


def is_given(app, slot, value):
    """Tell whether a value is a pair of a slot and a word."""
    return isinstance(value, tuple) and len(value) == 2 and value[0] == slot and value[1] in app.words


def opened(app, rule, value, editions):
    """Return the Step with which a session is opened from what was kept."""
    if not is_saved(app, rule, value):
        raise NotSaved()
    inputs, rows, kept = value
    records = tuple([NOTHING for _ in app.late + rows])
    if rule.saves == "records":
        records = kept
    if rule.saves == "values":
        records = tuple([(word, None, made) for word, made in kept])
    standing = (inputs, editions, rows, app.page_names[0], None, records, (), (), (), False)
    return step(app, rule, standing, ("reopen", editions))


def given_up(app, rule, standing):
    """Return the tuple of the instances that have a word that is not due, and for which nothing is begun."""
    asked = [act[:2] for act in standing[ACTS]]
    there = instances(app, rule, standing)
    calls = calls_there(app, standing[INPUTS], standing[EDITIONS], standing[ROWS])
    dues = dues_there(app, standing[INPUTS], standing[EDITIONS], standing[ROWS])
    begun_at = 1 if rule.again == "change" else 2
    return tuple([instance for instance, record, call, word in zip(there, standing[RECORDS], calls, dues)
                  if instance not in asked and record[0] != word and record[begun_at] == call])


def visits(app, deeds):
    """Return the deeds of a session, parted at each reopen deed."""
    check_deeds(app, deeds)
    found = []
    visit = []
    for deed in deeds:
        if is_reopening(deed):
            found.append(tuple(visit))
            visit = []
        else:
            visit.append(deed)
    return tuple(found) + (tuple(visit),)


def is_reopening(deed):
    """Tell whether a deed closes a session and opens it again."""
    return deed[0] == "reopen"


def shortened(app, rule, deeds):
    """Return fewer deeds that lead to the same standing, if nothing is kept when a session is closed."""
    check_deeds(app, deeds)
    places = [at for at, deed in enumerate(deeds) if is_reopening(deed)]
    if rule.saves != "nothing" or places == []:
        return tuple(deeds)
    first = begin(app, rule)
    ahead = [first] + walked(app, rule, first.standing, deeds[:places[-1]])
    return tuple(deeds_to(app, ahead[-1].standing)) + tuple(deeds[places[-1]:])


def deeds_to(app, standing):
    """Return the list of the deeds that lead to the inputs and the rows of a standing."""
    told = [("set", slot, now) for (slot, first), now in zip(app.inputs, standing[INPUTS]) if now != first]
    for row, word in standing[ROWS]:
        told.append(("add", row))
        if word != app.rows[1]:
            told.append(("rowset", row, word))
    return told
