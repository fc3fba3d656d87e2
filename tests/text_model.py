"""A second way to write and to judge texts of apps, written from [56] alone.

Whether a line can stand where it stands is found out by ending the text: if any of some ways to go on
makes it the text of an app, it is the beginning of one.
"""

from onesession.apps import App
from onesession.errors import InvalidApp


def told(*items):
    return " ".join(str(item) for item in items)


def expr_text(expr):
    if expr[0] in ("word", "slot"):
        return told(*expr)
    table = expr[1] if expr[0] == "map" else sum(expr[1], ())
    return told(expr[0], *table, *[expr_text(part) for part in expr[2:]])


def app_text(app):
    """The text of an app."""
    lines = [told("words", *app.words)]
    lines += [told("module", *item) for item in app.modules] + [told("input", *item) for item in app.inputs]
    for head, items in (("made", app.made), ("late", app.late)):
        for slot, module, exprs in items:
            lines += [told(head, slot, module)] + [expr_text(expr) for expr in exprs]
    if app.rows is not None:
        lines += [told("rows", *app.rows[:4])] + [expr_text(expr) for expr in app.rows[4]]
    for name, needs, guard in app.pages:
        lines.append(told("page", name, *needs))
        if guard is not None:
            lines += [told("guard", guard[0])] + [expr_text(expr) for expr in guard[1]]
    for name, module, page, target, exprs, listed, when in app.handlers:
        lines += [told("handler", name, module, page, target, when, *listed)] + [expr_text(expr) for expr in exprs]
    if app.form is not None:
        lines.append(told("form", *app.form))
    return "\n".join(lines)


def taken_expr(items, size):
    """The expression at the beginning of some items, and the items behind it."""
    head = items[0]
    if head in ("word", "slot"):
        return (head, items[1]), items[2:]
    if head == "map":
        part, left = taken_expr(items[1 + size:], size)
        return (head, tuple(items[1:1 + size]), part), left
    rows = tuple(tuple(items[1 + size * at:1 + size * (at + 1)]) for at in range(size))
    first, left = taken_expr(items[1 + size * size:], size)
    second, left = taken_expr(left, size)
    return ("pair", rows, first, second), left


def app_of(text):
    """The app with a text, or None. It is read without a look at what may stand where, and written again."""
    passed = {"words": (), "modules": (), "inputs": (), "pages": (), "made": (), "late": (), "handlers": ()}
    exprs = None
    try:
        for line in text.split("\n"):
            head, *items = line.split(" ")
            if head in ("word", "slot", "map", "pair"):
                expr, left = taken_expr([head] + items, len(passed["words"]))
                if left or exprs is None:
                    return None
                exprs.append(expr)
                continue
            exprs = []
            if head == "words":
                passed["words"] = tuple(items)
            elif head == "module":
                passed["modules"] += ((items[0], int(items[1])),)
            elif head == "input":
                passed["inputs"] += (tuple(items),)
            elif head in ("made", "late"):
                passed[head] += ((*items, exprs),)
            elif head == "rows":
                passed["rows"] = (*items, exprs)
            elif head == "page":
                passed["pages"] += ((items[0], tuple(items[1:]), None),)
            elif head == "guard":
                name, needs, _ = passed["pages"][-1]
                passed["pages"] = passed["pages"][:-1] + ((name, needs, (*items, exprs)),)
            elif head == "handler":
                name, module, page, target, when, *listed = items
                passed["handlers"] += ((name, module, page, target, exprs, tuple(listed), when),)
            elif head == "form":
                passed["form"] = tuple(items)
            else:
                return None
        app = App(**frozen(passed))
    except (InvalidApp, IndexError, ValueError, RecursionError):
        return None
    return app if app_text(app) == text else None


def frozen(value):
    """A value with tuples in the places of lists."""
    if isinstance(value, dict):
        return {name: frozen(part) for name, part in value.items()}
    return tuple(frozen(part) for part in value) if isinstance(value, (list, tuple)) else value


def is_beginning(lines):
    """Tell whether lines are the beginning of a text of an app, or such a text."""
    if not lines:
        return True
    word = lines[0].split(" ")[1:2]
    if not word:
        return False
    ends = ["module zq 1", "input zq " + word[0], "page zq"]
    for exprs in range(3):
        for at in range(4):
            if app_of("\n".join(lines + ["word " + word[0]] * exprs + ends[at:])) is not None:
                return True
    return False


def wrong_line(text):
    """The number of the line at which a text is wrong, or None if it is the text of an app."""
    if app_of(text) is not None:
        return None
    lines = text.split("\n")
    # What is not a beginning is none with more lines either, so the first line that is wrong can be closed in on.
    right, wrong = 0, len(lines) + 1
    while wrong - right > 1:
        at = (right + wrong) // 2
        if is_beginning(lines[:at]):
            right = at
        else:
            wrong = at
    return right
