"""Texts of apps, rules, deeds and sessions: how they are written and read."""

from onesession.apptexts import app_in
from onesession.counting import check_all
from onesession.deeds import is_deed
from onesession.lines import Lines, is_number
from onesession.rules import PARTS, Rule

FLAGS = {True: "yes", False: "no"}
# The positions of the integers among the items of deeds; those of reopen stand in a tuple of their own.
NUMBER_AT = {"land": 1, "edit": 2, "rowset": 1, "add": 1, "drop": 1, "swap": 1, "timer": 1}


def line_of(*items):
    """Return a line with these items."""
    return " ".join([str(item) for item in items])


def expr_line(expr):
    """Return the line of an expression."""
    items = expr_items(expr)
    return line_of(*items)


def expr_items(expr):
    """Return the list of the items of an expression, each node ahead of its parts."""
    head = expr[0]
    if head in ("word", "slot"):
        return [head, expr[1]]
    table = list(expr[1]) if head == "map" else [word for row in expr[1] for word in row]
    found = [head] + table
    for part in expr[2:]:
        found.extend(expr_items(part))
    return found


def with_exprs(line, exprs):
    """Return the list of a line and, behind it, the lines of its expressions."""
    return [line] + [expr_line(expr) for expr in exprs]


def write_app(app):
    """Return the text of an app."""
    lines = [line_of("words", *app.words)]
    lines.extend([line_of("module", name, count) for name, count in app.modules])
    lines.extend([line_of("input", slot, word) for slot, word in app.inputs])
    for head, makers in (("made", app.made), ("late", app.late)):
        for slot, module, exprs in makers:
            lines.extend(with_exprs(line_of(head, slot, module), exprs))
    if app.rows is not None:
        slot, word, late_slot, module, exprs = app.rows
        lines.extend(with_exprs(line_of("rows", slot, word, late_slot, module), exprs))
    for page in app.pages:
        lines.extend(page_lines(*page))
    for name, module, page, target, exprs, listed, when in app.handlers:
        lines.extend(with_exprs(line_of("handler", name, module, page, target, when, *listed), exprs))
    if app.form is not None:
        lines.append(line_of("form", *app.form))
    return "\n".join(lines)


def page_lines(name, needs, guard):
    """Return the list of the lines of a page."""
    lines = [line_of("page", name, *needs)]
    if guard is not None:
        module, exprs = guard
        lines.extend(with_exprs(line_of("guard", module), exprs))
    return lines


def write_rule(rule):
    """Return the text of a rule."""
    return "\n".join([rule_line(part, value) for (part, _), value in zip(PARTS, rule.choice)])


def rule_line(part, value):
    """Return the line of a part of a rule with a value."""
    return line_of(part, FLAGS[value] if isinstance(value, bool) else value)


def write_deeds(app, deeds):
    """Return the text of some deeds of an app."""
    check_all(app, deeds)
    return "\n".join([deed_line(deed) for deed in deeds])


def deed_line(deed):
    """Return the line of a deed."""
    head, *items = deed
    if head == "reopen":
        items = deed[1]
    return line_of(head, *items)


def write_session(app, rule, deeds):
    """Return the text of an app, a rule and some deeds."""
    texts = [write_app(app), write_rule(rule), write_deeds(app, deeds)]
    return "\n\n".join(texts if len(deeds) > 0 else texts[:2])


def read_app(text):
    """Return the app with a text."""
    lines = Lines(text)
    app = app_in(lines)
    lines.take_end()
    return app


def read_rule(text):
    """Return the rule with a text."""
    lines = Lines(text)
    rule = rule_in(lines)
    lines.take_end()
    return rule


def read_deeds(app, text):
    """Return the tuple of the deeds of an app with a text."""
    return () if text == "" else deeds_in(Lines(text), app)


def read_session(text):
    """Return the app, the rule and the tuple of the deeds with a text."""
    lines = Lines(text)
    app, rule = pair_in(lines)
    deeds = ()
    if lines.following() is not None:
        lines.take_line("")
        deeds = deeds_in(lines, app)
    return (app, rule, deeds)


def pair_in(lines):
    """Return the app and the rule whose texts the next lines are, with an empty line between them."""
    app = app_in(lines)
    lines.take_line("")
    return (app, rule_in(lines))


def rule_in(lines):
    """Return the rule whose text the next lines are."""
    table = {}
    for part, values in PARTS:
        found = [value for value in values if lines.following() == rule_line(part, value)]
        lines.take(found != [])
        table[part] = found[0]
    return Rule(**table)


def deeds_in(lines, app):
    """Return the tuple of the deeds whose text all lines that are left are; there is at least one."""
    deeds = [deed_in(lines, app)]
    while lines.following() is not None:
        deeds.append(deed_in(lines, app))
    return tuple(deeds)


def deed_in(lines, app):
    """Return the deed that the next line has."""
    deed = deed_of(lines.parts())
    lines.take(is_deed(app, deed))
    return deed


def deed_of(parts):
    """Return the deed with these items, with integers in the places of their digits; it may be one of no app."""
    if parts[:1] == ["reopen"]:
        return ("reopen", tuple([numbered(part) for part in parts[1:]]))
    return tuple([numbered(part) if at == NUMBER_AT.get(parts[0]) else part for at, part in enumerate(parts)])


def numbered(text):
    """Return the integer with these digits, or None if they are those of none."""
    return int(text) if is_number(text) else None
