"""What each deed does itself, ahead of the settling.

Each effect gets the work and the items of the deed behind its head, and tells whether the
deed does anything.
"""

from onesession.basics import replaced, without
from onesession.settling import is_checking, send_checked
from onesession.standings import calls_there, instances_there, outcome, result_of


def land(work, number):
    """Let an act arrive: it is taken or dropped."""
    if number >= len(work.acts):
        return False
    slot, place, call, newest = work.acts[number]
    work.acts = without(work.acts, number)
    there = instances_there(work.app, work.rule, work.rows)
    calls = calls_there(work.app, work.inputs, work.editions, work.rows)
    at = there.index((slot, place)) if (slot, place) in there else None
    if at is None or not is_taken(work.rule, call, calls[at], newest):
        work.tell("dropped", slot, place)
        return True
    record = (result_of(work.app, slot, call), work.records[at][1], call)
    work.records = replaced(work.records, at, record)
    work.tell("taken", slot, place)
    return True


def is_taken(rule, call, now, newest):
    """Tell whether an act is taken that was begun with a call, where that of now is passed."""
    if rule.words and call[1] != now[1]:
        return False
    if rule.code and call[0] != now[0]:
        return False
    return newest or not rule.newest


def set_input(work, slot, word):
    """Give an input another word."""
    at = work.app.input_names.index(slot)
    if work.inputs[at] == word:
        return False
    work.inputs = replaced(work.inputs, at, word)
    work.waiting = False
    return True


def edit(work, module, edition):
    """Give a module another edition."""
    at = work.app.module_names.index(module)
    if work.editions[at] == edition:
        return False
    work.editions = replaced(work.editions, at, edition)
    work.waiting = False
    return True


def row_at(work, row):
    """Return the position of the row with an id, or None."""
    ids = [number for number, _ in work.rows]
    return ids.index(row) if row in ids else None


def rowset(work, row, word):
    """Give a row another word."""
    at = row_at(work, row)
    if at is None or work.rows[at][1] == word:
        return False
    work.rows = replaced(work.rows, at, (row, word))
    work.waiting = False
    return True


def add(work, row):
    """Add a row at the end."""
    if row_at(work, row) is not None:
        return False
    work.rows = work.rows + ((row, work.app.rows[1]),)
    work.records = work.records + ((None, None, None),)
    return True


def drop(work, row):
    """Take a row away, and one of the records."""
    at = row_at(work, row)
    if at is None:
        return False
    work.rows = without(work.rows, at)
    if work.rule.key == "id":
        work.records = without(work.records, len(work.app.late_names) + at)
    else:
        work.records = work.records[:-1]
    return True


def swap(work, at):
    """Exchange a row with the next one."""
    if at + 1 >= len(work.rows):
        return False
    work.rows = exchanged(work.rows, at)
    if work.rule.key == "id":
        work.records = exchanged(work.records, len(work.app.late_names) + at)
    return True


def exchanged(items, at):
    """Return the tuple of the items in which the one at a position is exchanged with the next one."""
    return items[:at] + (items[at + 1], items[at]) + items[at + 2:]


def go(work, page):
    """Go to a page, or stop being under way."""
    if page == work.page and work.way is None:
        return False
    work.way = None
    if page == work.page:
        return True
    if not work.moment()["letting"][page]:
        work.tell("refused", page)
    elif work.rule.turn == "once":
        work.show(page)
    else:
        work.way = page
        work.tell("way", page)
    return True


def press(work, handler):
    """Press a handler: it sets its target, or puts a timer."""
    _, _, page, _, _, _, when = work.app.handler_named(handler)
    if page != work.page:
        return False
    call = pressed_call(work, handler)
    if when == "now":
        set_target(work, "pressed", handler, call)
    else:
        work.timers = work.timers + ((handler,) + call,)
        work.tell("put", handler)
    return True


def pressed_call(work, handler):
    """Return the call that a handler of the page that is shown names when it is pressed."""
    if work.rule.holds == "now":
        return work.moment()["handler calls"][handler]
    entries = {entry[0]: entry for entry in work.held}
    _, edition, _, given = entries[handler]
    return (edition, given)


def timer(work, number):
    """Let a timer go."""
    if number >= len(work.timers):
        return False
    handler, edition, given = work.timers[number]
    work.timers = without(work.timers, number)
    call = (edition, given)
    if work.rule.timers == "now":
        call = work.moment()["handler calls"][handler]
    set_target(work, "fired", handler, call)
    return True


def set_target(work, head, handler, call):
    """Give the target of a handler the outcome of a call, and tell it with the outcome of now."""
    word = outcome(work.app, handler, call)
    work.tell(head, handler, word, work.moment()["outcomes"][handler])
    set_input(work, work.app.handler_named(handler)[3], word)


def send(work):
    """Send the form, hold it back, or let it wait."""
    if work.waiting:
        return False
    if work.rule.sending == "go":
        work.tell("sent")
    elif not is_checking(work):
        send_checked(work)
    elif work.rule.sending == "bar":
        work.tell("unsent")
    else:
        work.waiting = True
        work.tell("waiting")
    return True


def reopen(work, editions):
    """Close the session and open it again with these editions."""
    work.editions = editions
    work.acts = ()
    work.timers = ()
    work.way = None
    work.held = ()
    work.page = work.app.page_names[0]
    work.waiting = False
    calls = calls_there(work.app, work.inputs, editions, work.rows)
    work.records = tuple([reopened(work.rule, record, call) for record, call in zip(work.records, calls)])
    work.tell("reopened")
    return True


def reopened(rule, record, call):
    """Return what a record becomes when a session is opened again, where the call of now is passed."""
    word, _, made = record
    if rule.saves == "records":
        return record
    if rule.saves == "nothing" or word is None:
        return (None, None, None)
    if rule.keep == "keep":
        return (word, call, call)
    return (word, None, made)


EFFECTS = {
    "land": land,
    "set": set_input,
    "edit": edit,
    "rowset": rowset,
    "add": add,
    "drop": drop,
    "swap": swap,
    "go": go,
    "press": press,
    "timer": timer,
    "send": send,
    "reopen": reopen,
}


def take_effect(work, deed):
    """Do a deed, and tell whether it does anything."""
    effect = EFFECTS[deed[0]]
    items = deed[1:]
    return effect(work, *items)
