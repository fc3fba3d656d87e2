"""Whole sessions, given by their deeds."""

from onesession.basics import is_integer
from onesession.deeds import is_deed
from onesession.errors import BadJournal, InvalidBound, LimitExceeded
from onesession.judging import check_fault, faults
from onesession.running import begin, step, walked
from onesession.screens import screen
from onesession.standings import ACTS, TIMERS

LAND = ("land", 0)
TIMER = ("timer", 0)


def check_deeds(app, deeds):
    """Raise BadJournal if an item is no deed of the app."""
    for at, deed in enumerate(deeds):
        if not is_deed(app, deed):
            raise BadJournal(at)


def check_outer(app, deeds):
    """Raise BadJournal if an item is no deed of the app, or one that lets an act arrive."""
    for at, deed in enumerate(deeds):
        if not is_deed(app, deed) or is_landing(deed):
            raise BadJournal(at)


def is_landing(deed):
    """Tell whether a deed lets an act arrive."""
    return deed[0] == "land"


def play(app, rule, deeds):
    """Return the tuple of the Steps of a session, that of its beginning first."""
    check_deeds(app, deeds)
    first = begin(app, rule)
    return (first,) + tuple(walked(app, rule, first.standing, deeds))


def shows(app, rule, deeds, fault):
    """Tell whether a value is a session whose last Step has a fault."""
    check_fault(app, fault)
    if not isinstance(deeds, tuple) or not all([is_deed(app, deed) for deed in deeds]):
        return False
    return fault in faults(app, rule, play(app, rule, deeds)[-1])


def outer(app, deeds):
    """Return the tuple of the deeds that do not let an act arrive."""
    check_deeds(app, deeds)
    return tuple([deed for deed in deeds if not is_landing(deed)])


def replay(app, rule, deeds):
    """Return where a session breaks for want of an act or a timer, or the last Step where it stands."""
    check_deeds(app, deeds)
    last = begin(app, rule)
    for at, deed in enumerate(deeds):
        if is_wanting(last.standing, deed):
            return ("breaks", at)
        last = step(app, rule, last.standing, deed)
    return ("stands", last)


def is_wanting(standing, deed):
    """Tell whether there is no act or timer of the number that a deed names."""
    if is_landing(deed):
        return deed[1] >= len(standing[ACTS])
    return deed[0] == "timer" and deed[1] >= len(standing[TIMERS])


def prompt(app, rule, deeds):
    """Return the tuple of the deeds of a session in which everything lands at once."""
    check_outer(app, deeds)
    told, standing = landed(app, rule, begin(app, rule).standing)
    for deed in deeds:
        landings, standing = landed(app, rule, step(app, rule, standing, deed).standing)
        told.append(deed)
        told.extend(landings)
    return tuple(told)


def landed(app, rule, standing):
    """Return the list of the landings that it takes to land all, and the standing behind them."""
    landings = []
    while standing[ACTS] != ():
        standing = step(app, rule, standing, LAND).standing
        landings.append(LAND)
    return landings, standing


def calm(app, rule, standing):
    """Return the tuple of the deeds that lead from a standing to a quiet one."""
    told, standing = landed(app, rule, standing)
    while standing[TIMERS] != ():
        landings, standing = landed(app, rule, step(app, rule, standing, TIMER).standing)
        told.append(TIMER)
        told.extend(landings)
    return tuple(told)


def ends(app, rule, deeds, *, limit=1000):
    """Return the list of the screens with which deeds can end, wherever the landings fall."""
    check_outer(app, deeds)
    if not is_integer(limit) or limit < 1:
        raise InvalidBound(limit)
    row = completed(app, rule, [begin(app, rule).standing], limit)
    for deed in deeds:
        behind = {step(app, rule, standing, deed).standing: True for standing in row}
        row = completed(app, rule, list(behind), limit)
    screens = {screen(app, rule, standing): True for standing in row if standing[ACTS] == ()}
    return list(screens)


def completed(app, rule, standings, limit):
    """Return the list of some standings and of all to which landings lead from them."""
    row = list(standings)
    known = {other: True for other in row}
    at = 0
    while at < len(row):
        standing = row[at]
        at += 1
        for number in range(len(standing[ACTS])):
            behind = step(app, rule, standing, ("land", number)).standing
            if behind not in known:
                known[behind] = True
                row.append(behind)
            if len(row) > limit:
                raise LimitExceeded(limit)
    return row
