"""Books: all standings to which sessions within bounds lead, and lists that are closed under their deeds."""

from onesession.bounds import check_bound, check_bounds, is_within, steps_within
from onesession.errors import InvalidKind, LimitExceeded, NoFault, NoStanding
from onesession.judging import KINDS, all_faults, faults
from onesession.running import begin, step

MOST_STANDINGS = 10000


class Book:
    """The standings to which the sessions of an app lead that never leave the bounds."""

    def __init__(self, app, rule, *, acts=2, timers=1, limit=2000):
        check_bounds(acts, timers)
        check_bound(limit, 1, MOST_STANDINGS)
        self.app = app
        self.rule = rule
        self.acts = acts
        self.timers = timers
        self.limit = limit
        first = begin(app, rule)
        # The standings have numbers: order has the standing of each number, places the number of each standing.
        self.order = [first.standing]
        self.places = {first.standing: 0}
        # The least session to each standing, and the least one whose last Step has a fault, for each fault.
        self.sessions = [()]
        self.seen = {fault: () for fault in faults(app, rule, first)}
        # The pairs (DEED, NUMBER OF THE STANDING BEHIND IT) that lead on from each standing.
        self.ways = []
        while len(self.ways) < len(self.order):
            self.ways.append(self.ways_on(len(self.ways)))

    def ways_on(self, number):
        """Return the list of the pairs (DEED, NUMBER) that lead on from a standing; what they lead to is added."""
        standing = self.order[number]
        ways = []
        for deed, done in steps_within(self.app, self.rule, standing, self.acts, self.timers):
            session = self.sessions[number] + (deed,)
            ways.append((deed, self.placed(done.standing, session)))
            for fault in faults(self.app, self.rule, done):
                self.seen.setdefault(fault, session)
        return ways

    def placed(self, standing, session):
        """Return the number of a standing to which a session leads; a new standing gets one."""
        if standing not in self.places:
            if len(self.order) == self.limit:
                raise LimitExceeded(self.limit)
            self.places[standing] = len(self.order)
            self.order.append(standing)
            self.sessions.append(session)
        return self.places[standing]

    def number_of(self, standing):
        """Return the number of a standing of the book."""
        if standing not in self.places:
            raise NoStanding()
        return self.places[standing]

    def __len__(self):
        return len(self.order)

    def __contains__(self, x):
        return x in self.places

    def standings(self):
        """Return the list of the standings, in the order of their least sessions."""
        return list(self.order)

    def moves(self, standing):
        """Return the list of the deeds of the book from a standing."""
        return [deed for deed, _ in self.ways[self.number_of(standing)]]

    def follow(self, standing, deed):
        """Return the standing behind a deed, or None if the deed leads out of the bounds."""
        self.number_of(standing)
        behind = step(self.app, self.rule, standing, deed).standing
        return behind if is_within(behind, self.acts, self.timers) else None

    def least_session(self, standing):
        """Return the least session that leads to a standing."""
        return self.sessions[self.number_of(standing)]

    def deeds_between(self, first, second):
        """Return the least tuple of deeds that lead from one standing to another one, or None."""
        start, end = self.number_of(first), self.number_of(second)
        found = {start: ()}
        left = [start]
        at = 0
        while at < len(left) and end not in found:
            number = left[at]
            at += 1
            for deed, behind in self.ways[number]:
                if behind not in found:
                    found[behind] = found[number] + (deed,)
                    left.append(behind)
        return found.get(end)

    def faults(self):
        """Return the list of the faults that some Step of the book has."""
        return [fault for fault in all_faults(self.app) if fault in self.seen]

    def least_fault(self, kind, name):
        """Return the least session whose last Step has a fault."""
        if (kind, name) not in self.faults():
            raise NoFault(kind, name)
        return self.seen[(kind, name)]

    def is_free(self, kind):
        """Tell whether no Step of the book has a fault of a kind."""
        if kind not in KINDS:
            raise InvalidKind(kind)
        return all([fault[0] != kind for fault in self.seen])


def is_closed(app, rule, standings, *, acts=2, timers=1):
    """Tell whether a list of standings holds all to which its standings and the beginning lead within the bounds."""
    check_bounds(acts, timers)
    return closing_steps(app, rule, standings, acts, timers) is not None


def shows_free(app, rule, standings, kind, *, acts=2, timers=1):
    """Tell whether a list of standings is a closed one none of whose Steps has a fault of a kind."""
    check_bounds(acts, timers)
    if kind not in KINDS:
        raise InvalidKind(kind)
    steps = closing_steps(app, rule, standings, acts, timers)
    if steps is None:
        return False
    return all([fault[0] != kind for done in steps for fault in faults(app, rule, done)])


def closing_steps(app, rule, standings, acts, timers):
    """Return the list of the Steps that lead to and from the standings of a closed list, or None for another list."""
    known = {standing: True for standing in standings}
    steps = [begin(app, rule)]
    if not all([is_within(standing, acts, timers) for standing in known]):
        return None
    for standing in known:
        steps.extend([done for _, done in steps_within(app, rule, standing, acts, timers)])
    return steps if all([done.standing in known for done in steps]) else None
