"""Changes of an app and a rule, one by one."""

from onesession.apps import App
from onesession.basics import replaced

EXPRS_OF_ROWS = 4
NEEDS = 1
GUARD = 2
LISTED = 5
WHEN = 6


def arguments_of(app):
    """Return the dict of the arguments with which an app is made."""
    return {
        "words": app.words, "modules": app.modules, "inputs": app.inputs, "pages": app.pages, "made": app.made,
        "late": app.late, "rows": app.rows, "handlers": app.handlers, "form": app.form,
    }


def with_item(items, name, at, worth):
    """Return the items in which the one with a name has another value at a position."""
    return tuple([replaced(item, at, worth) if item[0] == name else item for item in items])


def parts_with(app, head, name, worth):
    """Return a dict of the arguments that become others by a change of an app, or None if it changes nothing."""
    if head == "exprs" and name in app.made_names:
        return {"made": with_item(app.made, name, 2, worth)}
    if head == "exprs" and name in app.late_names:
        return {"late": with_item(app.late, name, 2, worth)}
    if head == "exprs" and name in app.late_slots:
        return {"rows": replaced(app.rows, EXPRS_OF_ROWS, worth)}
    if head == "needs" and name in app.page_names:
        return {"pages": with_item(app.pages, name, NEEDS, worth)}
    if head == "guard" and name in app.page_names:
        return {"pages": with_item(app.pages, name, GUARD, worth)}
    if head == "listed" and name in app.handler_names:
        return {"handlers": with_item(app.handlers, name, LISTED, worth)}
    if head == "when" and name in app.handler_names:
        return {"handlers": with_item(app.handlers, name, WHEN, worth)}
    return None


def with_change(app, rule, change):
    """Return the pair of the app and the rule with a change."""
    head, name, worth = change
    if head == "rule":
        return (app, rule.turned(name, worth))
    arguments = arguments_of(app)
    arguments.update(parts_with(app, head, name, worth))
    return (App(**arguments), rule)
