"""Sessions that are going on."""

from onesession.deeds import is_deed
from onesession.errors import BatchRefused, NoSlot, NothingToRedo, NothingToUndo
from onesession.judging import all_faults, faults
from onesession.running import Step, begin, step, walked
from onesession.screens import screen
from onesession.standings import EDITIONS, INPUTS, RECORDS, ROWS, words_now


def is_slot(app, value):
    """Tell whether a value is a slot of an app."""
    if value in app.input_names or value in app.made_names or value in app.late_slots:
        return True
    return app.rows is not None and value == app.rows[0]


def words_there(app, standing, slot):
    """Return the word of a slot in a standing, or for the slots of rows the tuple of their words."""
    records = dict(zip(app.late_names, standing[RECORDS]))
    if slot in records:
        return records[slot][0]
    if slot in app.late_slots:
        return tuple([record[0] for record in standing[RECORDS][len(app.late):]])
    if app.rows is not None and slot == app.rows[0]:
        return tuple([word for _, word in standing[ROWS]])
    return dict(words_now(app, standing[INPUTS], standing[EDITIONS]))[slot]


def check_batch(app, deeds):
    """Raise BatchRefused if an item of a batch is no deed of the app."""
    for at, deed in enumerate(deeds):
        if not is_deed(app, deed):
            raise BatchRefused(at)


class Live:
    """A session that is going on."""

    def __init__(self, app, rule, *, standing=None):
        first = begin(app, rule) if standing is None else Step(standing, ())
        self.app = app
        self.rule = rule
        self.done = ()
        self.undone = ()
        # The Steps are kept beside their deeds, so that undo and redo need not do a deed again.
        self.steps = (first,)
        self.undone_steps = ()
        self.last = first
        self.standing = first.standing

    def stand(self, steps, done, undone_steps, undone):
        """Stand behind the last one of these Steps."""
        self.steps = steps
        self.done = done
        self.undone_steps = undone_steps
        self.undone = undone
        self.last = steps[-1]
        self.standing = steps[-1].standing

    def do(self, deed):
        """Do a deed, and return its Step."""
        made = step(self.app, self.rule, self.standing, deed)
        self.stand(self.steps + (made,), self.done + (deed,), (), ())
        return made

    def land(self, k):
        """Let an act arrive, and return the events."""
        return self.do(("land", k)).events

    def edit(self, module, edition):
        """Give a module an edition, and return the events."""
        return self.do(("edit", module, edition)).events

    def set_row(self, row, word):
        """Give the row with an id a word, and return the events."""
        return self.do(("rowset", row, word)).events

    def add_row(self, row):
        """Add a row with an id, and return the events."""
        return self.do(("add", row)).events

    def drop_row(self, row):
        """Take the row with an id away, and return the events."""
        return self.do(("drop", row)).events

    def swap_rows(self, position):
        """Exchange the row at a position with the next one, and return the events."""
        return self.do(("swap", position)).events

    def go(self, page):
        """Go to a page, and return the events."""
        return self.do(("go", page)).events

    def press(self, handler):
        """Press a handler, and return the events."""
        return self.do(("press", handler)).events

    def fire_timer(self, k):
        """Let a timer go, and return the events."""
        return self.do(("timer", k)).events

    def send(self):
        """Send the form, and return the events."""
        return self.do(("send",)).events

    def reopen(self, editions):
        """Close the session and open it again with these editions, and return the events."""
        return self.do(("reopen", editions)).events

    def faults(self):
        """Return the list of the faults of the last Step."""
        return faults(self.app, self.rule, self.last)

    def screen(self):
        """Return the screen of the standing."""
        return screen(self.app, self.rule, self.standing)

    def seen_faults(self):
        """Return the list of the faults that some Step has, each once."""
        seen = {fault: True for made in self.steps for fault in faults(self.app, self.rule, made)}
        return [fault for fault in all_faults(self.app) if fault in seen]

    def trial(self, deeds):
        """Return the tuple of the Steps that a batch would give."""
        check_batch(self.app, deeds)
        return tuple(walked(self.app, self.rule, self.standing, deeds))

    def undo(self):
        """Go back to where the session stood before the last deed, and return this deed."""
        if self.done == ():
            raise NothingToUndo()
        deed = self.done[-1]
        undone_steps = (self.last,) + self.undone_steps
        self.stand(self.steps[:-1], self.done[:-1], undone_steps, (deed,) + self.undone)
        return deed

    def redo(self):
        """Do the first deed again that was undone, and return its Step."""
        if self.undone == ():
            raise NothingToRedo()
        made = self.undone_steps[0]
        done = self.done + self.undone[:1]
        self.stand(self.steps + (made,), done, self.undone_steps[1:], self.undone[1:])
        return made

    def fork(self):
        """Return another Live that stands where this one stands, with the same history."""
        other = Live(self.app, self.rule, standing=self.standing)
        other.stand(self.steps, self.done, self.undone_steps, self.undone)
        return other

    def __len__(self):
        return len(self.done)

    def __iter__(self):
        raise TypeError("a session that is going on is not iterated over")

    def __contains__(self, x):
        return is_slot(self.app, x)

    def __getitem__(self, at):
        if not is_slot(self.app, at):
            raise NoSlot(at)
        return words_there(self.app, self.standing, at)

    def __setitem__(self, at, worth):
        self.do(("set", at, worth))

    def __iadd__(self, other):
        made = self.trial(other)
        if len(made) > 0:
            self.stand(self.steps + made, self.done + tuple(other), (), ())
        return self
