"""What is wrong with a Step of a session."""

from onesession.errors import BadFault
from onesession.standings import EDITIONS, INPUTS, PAGE, RECORDS, ROWS, WAY, call_now, dues_there, instances, is_quiet
from onesession.standings import lets, result_of, wanted_slots, words_now

KINDS = ("unsettled", "elder", "barred", "sent")
CALLED = ("pressed", "fired")


def checks_of(app):
    """Return the tuple of the checks of the form, which is empty in an app without a form."""
    return () if app.form is None else app.form


def all_faults(app):
    """Return the list of the faults of an app."""
    groups = (app.late_slots, app.handler_names, app.page_names, checks_of(app))
    return [(kind, name) for kind, names in zip(KINDS, groups) for name in names]


def check_fault(app, value):
    """Raise BadFault if a value is none of the faults of an app."""
    if value not in all_faults(app):
        raise BadFault(value)


def due(app, rule, standing, instance):
    """Return the due word of an instance that is there."""
    return result_of(app, instance[0], call_now(app, rule, standing, instance))


def stale(app, rule, standing):
    """Return the tuple of the wanted instances whose word is not the due one."""
    slots = wanted_slots(app, rule, standing[PAGE], standing[WAY])
    dues = dues_there(app, standing[INPUTS], standing[EDITIONS], standing[ROWS])
    there = instances(app, rule, standing)
    return tuple([instance for instance, record, word in zip(there, standing[RECORDS], dues)
                  if instance[0] in slots and record[0] != word])


def check_due(app, rule, standing, check):
    """Return the due word of a check of the form."""
    return check_due_in(app, check, standing[INPUTS], standing[EDITIONS])


def check_due_in(app, check, inputs, editions):
    """Return the due word of a check of the form in a state."""
    if check in app.made_names:
        return dict(words_now(app, inputs, editions))[check]
    return app.moments[(inputs, editions)]["dues"][check]


def faults(app, rule, step):
    """Return the list of the faults of a Step, each once."""
    return unsettled(app, rule, step) + elder(app, step) + barred(app, step) + sent(app, rule, step)


def unsettled(app, rule, step):
    """Return the list of the faults of a Step for slots with a word that is not due."""
    if not is_quiet(step.standing):
        return []
    slots = [slot for slot, _ in stale(app, rule, step.standing)]
    return [("unsettled", slot) for slot in app.late_slots if slot in slots]


def elder(app, step):
    """Return the list of the faults of a Step for handlers that were not called as of now."""
    old = [event[1] for event in step.events if event[0] in CALLED and event[2] != event[3]]
    return [("elder", handler) for handler in app.handler_names if handler in old]


def barred(app, step):
    """Return the list of the faults of a Step for pages that are shown though their guard does not let."""
    inputs, editions = step.standing[:ROWS]
    shown = [event[1] for event in step.events if event[0] == "page"]
    return [("barred", page) for page in app.page_names if page in shown and not lets(app, page, inputs, editions)]


def sent(app, rule, step):
    """Return the list of the faults of a Step for checks that are not right when the form is sent."""
    if ("sent",) not in step.events:
        return []
    return [("sent", check) for check in checks_of(app) if check_due(app, rule, step.standing, check) != app.right]
