"""Rules: when something is begun, and what is compared when it arrives."""

from onesession.errors import InvalidRule

PARTS = (
    ("again", ("change", "match")),
    ("one", ("many", "one")),
    ("words", (False, True)),
    ("code", (False, True)),
    ("newest", (False, True)),
    ("keep", ("keep", "clear")),
    ("key", ("id", "place")),
    ("ask", ("eager", "needed")),
    ("turn", ("once", "loaded")),
    ("guard", ("begin", "land")),
    ("holds", ("listed", "now")),
    ("swap", ("renew", "keep")),
    ("timers", ("held", "now")),
    ("sending", ("bar", "wait", "go")),
    ("saves", ("nothing", "records", "values")),
)


def is_one_of(values, value):
    """Tell whether a value is one of the values of a part."""
    # 1 and 0 are equal to flags, but they are none.
    return isinstance(value, (str, bool)) and value in values


class Rule:
    """A rule; its arguments are its parts."""

    def __init__(self, *, again="change", one="many", words=True, code=True, newest=False, keep="keep", key="id",
                 ask="eager", turn="once", guard="begin", holds="now", swap="renew", timers="now", sending="bar",
                 saves="nothing"):
        choice = (again, one, words, code, newest, keep, key, ask, turn, guard, holds, swap, timers, sending, saves)
        for (part, values), value in zip(PARTS, choice):
            if not is_one_of(values, value):
                raise InvalidRule(part)
        self.again = again
        self.one = one
        self.words = words
        self.code = code
        self.newest = newest
        self.keep = keep
        self.key = key
        self.ask = ask
        self.turn = turn
        self.guard = guard
        self.holds = holds
        self.swap = swap
        self.timers = timers
        self.sending = sending
        self.saves = saves
        self.choice = choice

    def __eq__(self, other):
        return isinstance(other, Rule) and self.choice == other.choice

    def turned(self, part, value):
        """Return the rule that has this value in this part and is the same otherwise."""
        table = {name: worth for (name, _), worth in zip(PARTS, self.choice)}
        if not isinstance(part, str) or part not in table:
            raise InvalidRule(part)
        table[part] = value
        return Rule(**table)
