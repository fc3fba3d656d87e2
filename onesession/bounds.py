"""Bounds of searches: how many acts and timers a standing may have."""

from onesession.basics import is_integer
from onesession.deeds import all_deeds
from onesession.errors import InvalidBound
from onesession.running import step
from onesession.standings import ACTS, TIMERS

MOST_ACTS = 12
MOST_TIMERS = 4


def check_bound(value, least, most):
    """Raise InvalidBound if a value is not an integer from the least to the most."""
    if not is_integer(value) or not least <= value <= most:
        raise InvalidBound(value)


def check_bounds(acts, timers):
    """Raise InvalidBound if one of the bounds of standings is wrong."""
    check_bound(acts, 1, MOST_ACTS)
    check_bound(timers, 0, MOST_TIMERS)


def is_within(standing, acts, timers):
    """Tell whether a standing has no more acts of each instance, and no more timers, than the bounds allow."""
    if len(standing[TIMERS]) > timers:
        return False
    begun = [act[:2] for act in standing[ACTS]]
    return len(begun) <= acts or all([begun.count(instance) <= acts for instance in begun])


def steps_within(app, rule, standing, acts, timers):
    """Return the list of the pairs (DEED, STEP) of all deeds that do not lead from a standing out of the bounds."""
    steps = [(deed, step(app, rule, standing, deed)) for deed in all_deeds(app, standing)]
    return [(deed, done) for deed, done in steps if is_within(done.standing, acts, timers)]
