"""The verdict: all faults that sessions of an app can have under a rule, and the reasons for them."""

from onesession.conditions import barred_reason, elder_reason, sent_reason, unsettled_reason
from onesession.errors import NoFault
from onesession.judging import all_faults
from onesession.reasons import is_found


def reason_for(app, rule, fault):
    """Return a reason for a fault of an app, or None."""
    kind, name = fault
    if kind == "unsettled":
        return unsettled_reason(app, rule, name)
    if kind == "elder":
        return elder_reason(app, rule, name)
    if kind == "barred":
        return barred_reason(app, rule, name)
    return sent_reason(app, rule, name)


def verdict(app, rule):
    """Return the list of all faults for which there is a reason."""
    return [fault for fault in all_faults(app) if reason_for(app, rule, fault) is not None]


def sound(app, rule):
    """Tell whether there is a reason for no fault."""
    for fault in all_faults(app):
        if reason_for(app, rule, fault) is not None:
            return False
    return True


def why(app, rule, kind, name):
    """Return a reason for a fault."""
    found = None
    if (kind, name) in all_faults(app):
        found = reason_for(app, rule, (kind, name))
    if found is None:
        raise NoFault(kind, name)
    return found


def is_reason(app, rule, kind, name, found):
    """Tell whether a value is a reason for a fault."""
    return (kind, name) in all_faults(app) and is_found(app, rule, (kind, name), found)
