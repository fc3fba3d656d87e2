"""Running a session: how it begins, and what a deed leads to."""

from onesession.deeds import is_deed
from onesession.effects import take_effect
from onesession.errors import BadDeed
from onesession.settling import settle
from onesession.work import Work


class Step:
    """The standing behind a deed, and the tuple of the events that the deed led to."""

    def __init__(self, standing, events):
        self.standing = standing
        self.events = events


def begin(app, rule):
    """Return the Step that begins a session."""
    inputs = tuple([word for _, word in app.inputs])
    editions = tuple([0 for _ in app.modules])
    records = tuple([(None, None, None) for _ in app.late])
    standing = (inputs, editions, (), app.page_names[0], None, records, (), (), (), False)
    return settled(Work(app, rule, standing))


def step(app, rule, standing, deed):
    """Return the Step of a deed that is done in a standing."""
    if not is_deed(app, deed):
        raise BadDeed(deed)
    work = Work(app, rule, standing)
    if not take_effect(work, deed):
        return Step(standing, ())
    return settled(work)


def settled(work):
    """Settle a work and return the Step to which it has led."""
    settle(work)
    return Step(work.packed(), tuple(work.events))


def walked(app, rule, standing, deeds):
    """Return the list of the Steps of some deeds that are done in order, the first one in a standing."""
    done = []
    for deed in deeds:
        done.append(step(app, rule, standing, deed))
        standing = done[-1].standing
    return done
