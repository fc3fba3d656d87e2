"""Walks: sessions that are built deed by deed."""

from onesession.conditions import call_in, is_of_rows, states_letting
from onesession.running import begin, step
from onesession.standings import ACTS, EDITIONS, INPUTS, PAGE, RECORDS, ROWS

# The one row that a walk may add; it is alone, so this is its place as well.
ROW = 1


class Walk:
    """A session that is built: where it stands, and the list of its deeds."""

    def __init__(self, app, rule):
        self.app = app
        self.rule = rule
        self.standing = begin(app, rule).standing
        self.told = []

    def step_on(self, *deed):
        """Do a deed."""
        self.standing = step(self.app, self.rule, self.standing, deed).standing
        self.told.append(deed)

    def shown(self):
        """Return the page that is shown."""
        return self.standing[PAGE]

    def move(self, inputs, editions):
        """Give the inputs and the modules the words and editions of a state."""
        words, numbers = self.standing[INPUTS], self.standing[EDITIONS]
        for slot, word, old in zip(self.app.input_names, inputs, words):
            if word != old:
                self.step_on("set", slot, word)
        for module, number, old in zip(self.app.module_names, editions, numbers):
            if number != old:
                self.step_on("edit", module, number)

    def move_to(self, spot):
        """Come to the state of a spot and, if it has one, to its word of the row."""
        inputs, editions, word = spot
        self.move(inputs, editions)
        if word is not None and (ROW, word) not in self.standing[ROWS]:
            self.step_on("rowset", ROW, word)

    def add_row_for(self, slot):
        """Add a row if a late slot is that of the rows."""
        if is_of_rows(self.app, slot):
            self.step_on("add", ROW)

    def come_to(self, page):
        """Come to a page that can be come to; nothing that it needs has landed before."""
        if self.shown() == page:
            return
        inputs, editions = states_letting(self.app, page)[0]
        self.move(inputs, editions)
        self.step_on("go", page)
        self.load(page)

    def load(self, page):
        """Let what a page needs land until the page is shown."""
        while self.shown() != page:
            self.step_on("land", self.first_act(self.app.page_named(page)[1]))

    def first_act(self, slots):
        """Return the number of the first act of some slots, or None."""
        for number, act in enumerate(self.standing[ACTS]):
            if act[0] in slots:
                return number
        return None

    def land_first(self, slot):
        """Let the first act of a slot land."""
        self.step_on("land", self.first_act((slot,)))

    def land_all(self, slots):
        """Let the acts of some slots land, the oldest first, until there is none."""
        number = self.first_act(slots)
        while number is not None:
            self.step_on("land", number)
            number = self.first_act(slots)

    def land_last(self, slots, slot, call):
        """Let the acts of some slots land, and one of a slot that was begun with a call behind all others."""
        number = self.first_other(slots, slot, call)
        while number is not None:
            self.step_on("land", number)
            number = self.first_other(slots, slot, call)
        self.land_all(slots)

    def first_other(self, slots, slot, call):
        """Return the number of the first act of some slots beside the one that is to be the last, or None."""
        acts = self.standing[ACTS]
        numbers = [number for number, act in enumerate(acts) if act[0] in slots]
        kept = [number for number in numbers if acts[number][0] == slot and acts[number][2] == call]
        others = [number for number in numbers if number not in kept[:1]]
        return others[0] if others != [] else None

    def last_begun(self, slot):
        """Return the call that was begun last for a late slot, or for the row of its slot."""
        names = self.app.late_slots
        return self.standing[RECORDS][names.index(slot)][1]

    def call(self, slot, spot):
        """Return the call of a late slot in a spot."""
        return call_in(self.app, slot, spot)
