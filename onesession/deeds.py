"""The deeds of an app."""

from onesession.basics import all_rows, is_below, is_integer
from onesession.standings import ACTS, TIMERS

IDS = (1, 2, 3)
POSITIONS = (0, 1)


def is_numbered(app, items):
    """Tell whether these are the items of land or timer behind their head."""
    return len(items) == 1 and is_integer(items[0]) and items[0] >= 0


def is_set(app, items):
    """Tell whether these are the items of set behind its head."""
    return len(items) == 2 and items[0] in app.input_names and items[1] in app.words


def is_edit(app, items):
    """Tell whether these are the items of edit behind its head."""
    if len(items) != 2 or items[0] not in app.module_names:
        return False
    return is_below(items[1], dict(app.modules)[items[0]])


def is_rowset(app, items):
    """Tell whether these are the items of rowset behind its head."""
    return len(items) == 2 and is_row(app, items[:1]) and items[1] in app.words


def is_row(app, items):
    """Tell whether these are the items of add or drop behind their head."""
    return app.rows is not None and len(items) == 1 and is_integer(items[0]) and items[0] in IDS


def is_swap(app, items):
    """Tell whether these are the items of swap behind its head."""
    return app.rows is not None and len(items) == 1 and is_below(items[0], len(POSITIONS))


def is_go(app, items):
    """Tell whether these are the items of go behind its head."""
    return len(items) == 1 and items[0] in app.page_names


def is_press(app, items):
    """Tell whether these are the items of press behind its head."""
    return len(items) == 1 and items[0] in app.handler_names


def is_send(app, items):
    """Tell whether send, which has no items behind its head, is a deed of the app."""
    return app.form is not None and items == ()


def is_reopen(app, items):
    """Tell whether these are the items of reopen behind its head."""
    if len(items) != 1 or not isinstance(items[0], tuple) or len(items[0]) != len(app.modules):
        return False
    return all([is_below(edition, count) for edition, (_, count) in zip(items[0], app.modules)])


FORMS = {
    "land": is_numbered,
    "set": is_set,
    "edit": is_edit,
    "rowset": is_rowset,
    "add": is_row,
    "drop": is_row,
    "swap": is_swap,
    "go": is_go,
    "press": is_press,
    "timer": is_numbered,
    "send": is_send,
    "reopen": is_reopen,
}


def is_deed(app, value):
    """Tell whether a value is a deed of the app."""
    if not isinstance(value, tuple) or value == ():
        return False
    head = value[0]
    if not isinstance(head, str) or head not in FORMS:
        return False
    fits = FORMS[head]
    return fits(app, value[1:])


def all_deeds(app, standing):
    """Return the list of the deeds of the app, with those of the acts and timers that are there."""
    return deeds_with(app, len(standing[ACTS]), len(standing[TIMERS]))


def deeds_with(app, acts, timers):
    """Return the list of the deeds of the app, with those of so many acts and timers."""
    deeds = [("land", number) for number in range(acts)]
    deeds.extend([("set", slot, word) for slot in app.input_names for word in app.words])
    deeds.extend([("edit", module, edition) for module, count in app.modules for edition in range(count)])
    deeds.extend(row_deeds(app))
    deeds.extend([("go", page) for page in app.page_names])
    deeds.extend([("press", handler) for handler in app.handler_names])
    deeds.extend([("timer", number) for number in range(timers)])
    if app.form is not None:
        deeds.append(("send",))
    every = all_rows([list(range(count)) for _, count in app.modules])
    deeds.extend([("reopen", editions) for editions in every])
    return deeds


def row_deeds(app):
    """Return the list of the deeds that change rows, which is empty in an app without rows."""
    if app.rows is None:
        return []
    deeds = [("rowset", row, word) for row in IDS for word in app.words]
    deeds.extend([(head, row) for row in IDS for head in ("add", "drop")])
    deeds.extend([("swap", position) for position in POSITIONS])
    return deeds
