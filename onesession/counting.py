"""Counts of the acts that are begun and of what becomes of them, and what a book tells of its standings."""

from onesession.deeds import is_deed
from onesession.errors import BadDeed, InvalidRules
from onesession.judging import stale
from onesession.running import begin, step
from onesession.standings import ACTS, PAGE, is_quiet

TOLD = ("begun", "taken", "dropped")
FATES = ("begun", "taken", "dropped", "closed", "left")
MOST_RULES = 6


def check_all(app, deeds):
    """Raise BadDeed with the first item that is no deed of the app."""
    for deed in deeds:
        if not is_deed(app, deed):
            raise BadDeed(deed)


def check_rules(rules):
    """Raise InvalidRules if there are too few or too many rules."""
    if not 1 <= len(rules) <= MOST_RULES:
        raise InvalidRules()


def fates(app, rule, deeds):
    """Return the list of the pairs (FATE, SLOT) of all that becomes of the acts of a session."""
    done = begin(app, rule)
    found = told_fates(done)
    for deed in deeds:
        if deed[0] == "reopen":
            found.extend([("closed", act[0]) for act in done.standing[ACTS]])
        done = step(app, rule, done.standing, deed)
        found.extend(told_fates(done))
    return found + [("left", act[0]) for act in done.standing[ACTS]]


def told_fates(done):
    """Return the list of the pairs (FATE, SLOT) that the events of a Step tell."""
    return [event[:2] for event in done.events if event[0] in TOLD]


def counts(app, rule, deeds):
    """Return the numbers of the acts of a session that are begun, taken, dropped, closed and left."""
    check_all(app, deeds)
    found = [fate for fate, _ in fates(app, rule, deeds)]
    return tuple([found.count(fate) for fate in FATES])


def counts_by_slot(app, rule, deeds):
    """Return the list of the pairs of each late slot and the counts of its acts alone."""
    check_all(app, deeds)
    found = fates(app, rule, deeds)
    return [(slot, tuple([found.count((fate, slot)) for fate in FATES])) for slot in app.late_slots]


def fewest_begun(app, rules, deeds):
    """Return the list of the indexes of the rules under which a session begins the fewest acts."""
    check_rules(rules)
    return places_of_least([counts(app, rule, deeds)[0] for rule in rules])


def fewest_vain(app, rules, deeds):
    """Return the list of the indexes of the rules under which the fewest acts of a session are in vain."""
    check_rules(rules)
    tables = [counts(app, rule, deeds) for rule in rules]
    return places_of_least([dropped + closed for _, _, dropped, closed, _ in tables])


def places_of_least(numbers):
    """Return the list of the indexes at which the least of some numbers stands."""
    least = min(numbers)
    return [at for at, number in enumerate(numbers) if number == least]


def is_settled(app, rule, standing):
    """Tell whether a standing is quiet and each wanted instance has its due word."""
    return is_quiet(standing) and stale(app, rule, standing) == ()


def lost(book):
    """Return the list of the standings of a book from which no deeds lead to a settled one."""
    ahead = [[] for _ in book.order]
    for number, ways in enumerate(book.ways):
        for _, behind in ways:
            ahead[behind].append(number)
    left = [number for number, standing in enumerate(book.order) if is_settled(book.app, book.rule, standing)]
    found = {number: True for number in left}
    while left != []:
        reached = left.pop()
        for number in ahead[reached]:
            if number not in found:
                found[number] = True
                left.append(number)
    return [standing for number, standing in enumerate(book.order) if number not in found]


def most_acts(book):
    """Return the greatest number of acts in a standing of a book, and the least session to such a standing."""
    numbers = [len(standing[ACTS]) for standing in book.order]
    most = max(numbers)
    return (most, book.sessions[numbers.index(most)])


def least_page(book, page):
    """Return the least session to a standing of a book that shows a page, or None."""
    for standing, session in zip(book.order, book.sessions):
        if standing[PAGE] == page:
            return session
    return None
