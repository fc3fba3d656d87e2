"""Apps and rules side by side: the least session that shows a difference, and parts that never show."""

from onesession.bounds import check_bound, check_bounds, is_within
from onesession.counting import check_rules
from onesession.deeds import deeds_with
from onesession.errors import LimitExceeded, NotComparable
from onesession.rules import PARTS
from onesession.running import begin, step
from onesession.screens import screen
from onesession.standings import ACTS, TIMERS

MOST_PAIRS = 20000
SENT = ("sent",)
COMPARED = ("words", "modules", "inputs", "pages", "handlers", "rows", "form")
OF_LATE = ("again", "one", "words", "code", "newest", "keep", "ask", "saves")
OF_HANDLERS = ("holds", "swap", "timers")


def check_search(acts, timers, limit):
    """Raise InvalidBound if one of the bounds of a comparison is wrong."""
    check_bounds(acts, timers)
    check_bound(limit, 1, MOST_PAIRS)


def check_comparable(app, other):
    """Raise NotComparable if two apps cannot be compared."""
    for part, here, there in zip(COMPARED, compared_parts(app), compared_parts(other)):
        if here != there:
            raise NotComparable(part)


def compared_parts(app):
    """Return the tuple of what has to be the same in two apps that are compared."""
    return (app.words, app.modules, app.input_names, app.page_names, app.handler_names,
            app.rows is not None, app.form is not None)


def searched(pairs, acts, timers, limit):
    """Return the least session that shows a difference, or None, and the list of the kept pairs of standings."""
    start = tuple([begin(app, rule).standing for app, rule in pairs])
    if are_unlike(pairs, start):
        return (), []
    kept = [start]
    sessions = {start: ()}
    at = 0
    while at < len(kept):
        standings = kept[at]
        at += 1
        for deed, steps in steps_beside(pairs, standings, acts, timers):
            session = sessions[standings] + (deed,)
            behind = tuple([done.standing for done in steps])
            is_new = behind not in sessions
            if is_sent_once(steps) or (is_new and are_unlike(pairs, behind)):
                return session, kept
            if is_new:
                # The sessions come in their order, so this pair comes before any difference that is still to be found.
                if len(kept) == limit:
                    raise LimitExceeded(limit)
                sessions[behind] = session
                kept.append(behind)
    return None, kept


def are_unlike(pairs, standings):
    """Tell whether the screens of two standings are unlike."""
    first, second = [screen(app, rule, standing) for (app, rule), standing in zip(pairs, standings)]
    return first != second


def is_sent_once(steps):
    """Tell whether the form is sent in exactly one of two Steps."""
    first, second = [SENT in done.events for done in steps]
    return first != second


def steps_beside(pairs, standings, acts, timers):
    """Return the list of the deeds of the comparison at two standings, each with the tuple of its two Steps."""
    most_acts = max([len(standing[ACTS]) for standing in standings])
    most_timers = max([len(standing[TIMERS]) for standing in standings])
    found = []
    for deed in deeds_with(pairs[0][0], most_acts, most_timers):
        steps = tuple([step(app, rule, standing, deed) for (app, rule), standing in zip(pairs, standings)])
        if all([is_within(done.standing, acts, timers) for done in steps]):
            found.append((deed, steps))
    return found


def compared_sessions(first, second, acts, timers, limit):
    """Return what a search tells of two pairs of an app and a rule, if they and the bounds are right."""
    check_search(acts, timers, limit)
    check_comparable(first[0], second[0])
    return searched((first, second), acts, timers, limit)


def difference(first, second, *, acts=2, timers=1, limit=5000):
    """Return the least session that shows a difference between two pairs of an app and a rule, or None."""
    session, _ = compared_sessions(first, second, acts, timers, limit)
    return session


def alike(first, second, *, acts=2, timers=1, limit=5000):
    """Tell whether no session within the bounds shows a difference."""
    return difference(first, second, acts=acts, timers=timers, limit=limit) is None


def pairing(first, second, *, acts=2, timers=1, limit=5000):
    """Return the list of the kept pairs of standings if no session shows a difference, and otherwise None."""
    session, kept = compared_sessions(first, second, acts, timers, limit)
    return kept if session is None else None


def rules_alike(app, rules, *, acts=2, timers=1, limit=5000):
    """Return the list of the lists of the indexes of rules that are alike for an app."""
    check_search(acts, timers, limit)
    check_rules(rules)
    groups = {}
    for at in range(len(rules)):
        leader = leader_of(app, rules, list(groups), at, (acts, timers, limit))
        groups.setdefault(leader, []).append(at)
    return [groups[leader] for leader in groups]


def leader_of(app, rules, leaders, at, bounds):
    """Return the first of the leaders with whose rule the one at an index is alike, or this index itself."""
    for leader in leaders:
        session, _ = searched(((app, rules[leader]), (app, rules[at])), *bounds)
        if session is None:
            return leader
    return at


def idle_parts(app, rule):
    """Return the tuple of the names of the parts of a rule that can never be seen in an app."""
    idle = idle_of_late(app, rule) + idle_of_others(app, rule)
    return tuple([part for part, _ in PARTS if part in idle])


def idle_of_late(app, rule):
    """Return the tuple of those parts that are idle because of modules, late slots and rows."""
    idle = OF_LATE if app.late_slots == () else ()
    if app.rows is None:
        idle = idle + ("key",)
    if all([count == 1 for _, count in app.modules]):
        idle = idle + ("code",)
    if rule.one == "one":
        idle = idle + ("newest",)
    if all([slot in needs for _, needs, _ in app.pages for slot in app.late_slots]):
        idle = idle + ("ask",)
    return idle


def idle_of_others(app, rule):
    """Return the tuple of those parts that are idle because of pages, handlers and the form."""
    idle = OF_HANDLERS if app.handlers == () else ()
    if rule.turn == "once":
        idle = idle + ("guard",)
    if rule.holds == "now":
        idle = idle + ("swap",)
    if all([handler[6] != "later" for handler in app.handlers]):
        idle = idle + ("timers",)
    if app.form is None:
        idle = idle + ("sending",)
    return idle


def plain_rule(app, rule):
    """Return the rule in which each part that can never be seen in an app has its first value."""
    idle = idle_parts(app, rule)
    for part, values in PARTS:
        if part in idle:
            rule = rule.turned(part, values[0])
    return rule
