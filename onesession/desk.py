"""The desk: an app and a rule that are edited, and what the verdict says of them meanwhile."""

from onesession.counting import check_all
from onesession.errors import InvalidKind, InvalidRule, NothingToRedo, NothingToUndo
from onesession.journal import play
from onesession.judging import KINDS, faults
from onesession.lines import Lines
from onesession.rules import PARTS
from onesession.texts import pair_in, write_session
from onesession.verdict import verdict


def check_kind(kind):
    """Raise InvalidKind if a value is no kind of faults."""
    if kind not in KINDS:
        raise InvalidKind(kind)


class Desk:
    """An app and a rule, the edits that led to them, and the kinds of faults that are watched."""

    def __init__(self, app, rule):
        # Pairs of an app and a rule: the present one, those ahead of the edits, and those that were taken back.
        self.now = (app, rule)
        self.elder = ()
        self.undone = ()
        self.kinds = ()

    @property
    def app(self):
        """The present app."""
        return self.now[0]

    @app.setter
    def app(self, value):
        """Replace the app."""
        self.put((value, self.now[1]))

    @property
    def rule(self):
        """The present rule."""
        return self.now[1]

    @rule.setter
    def rule(self, value):
        """Replace the rule."""
        self.put((self.now[0], value))

    @property
    def watched(self):
        """The tuple of the watched kinds."""
        return self.kinds

    def put(self, pair):
        """Replace the app and the rule, which is one edit."""
        self.elder = self.elder + (self.now,)
        self.undone = ()
        self.now = pair

    def put_app(self, app):
        """Replace the app."""
        self.put((app, self.now[1]))

    def put_rule(self, rule):
        """Replace the rule."""
        self.put((self.now[0], rule))

    def undo(self):
        """Take back the last edit."""
        if len(self.elder) == 0:
            raise NothingToUndo()
        self.undone = (self.now,) + self.undone
        self.now = self.elder[-1]
        self.elder = self.elder[:-1]

    def redo(self):
        """Make the edit again that was taken back last."""
        if len(self.undone) == 0:
            raise NothingToRedo()
        self.elder = self.elder + (self.now,)
        self.now = self.undone[0]
        self.undone = self.undone[1:]

    def trying(self, deed):
        """Return what a function returns for this desk, and stand as before."""
        now, elder, undone, kinds = self.now, self.elder, self.undone, self.kinds
        try:
            return deed(self)
        finally:
            self.now, self.elder, self.undone, self.kinds = now, elder, undone, kinds

    def verdict(self):
        """Return the list of the faults of the verdict of watched kinds."""
        return self.watched_in(verdict(self.now[0], self.now[1]))

    def watched_in(self, found):
        """Return the list of those faults whose kinds are watched."""
        return [fault for fault in found if fault[0] in self.kinds]

    def best(self, part):
        """Return the tuple of the values of a part with which the verdict has the fewest faults."""
        if part not in [name for name, _ in PARTS]:
            raise InvalidRule(part)
        app, rule = self.now
        values = dict(PARTS)[part]
        many = [len(self.watched_in(verdict(app, rule.turned(part, value)))) for value in values]
        fewest = min(many)
        return tuple([value for value, number in zip(values, many) if number == fewest])

    def first_fault(self, deeds):
        """Return the pair of the index of the first deed whose Step has a fault and this fault, or None."""
        app, rule = self.now
        check_all(app, deeds)
        for at, done in enumerate(play(app, rule, deeds)):
            found = self.watched_in(faults(app, rule, done))
            if found != []:
                return (at - 1, found[0])
        return None

    def text(self):
        """Return the text of the app and of the rule."""
        return write_session(self.now[0], self.now[1], ())

    @classmethod
    def opened(cls, text):
        """Return a new desk with the app and the rule of a text."""
        lines = Lines(text)
        app, rule = pair_in(lines)
        lines.take_end()
        return cls(app, rule)

    def __len__(self):
        return len(self.elder)

    def __iter__(self):
        raise TypeError("a desk is not iterated over")

    def __contains__(self, x):
        return x in self.kinds

    def __getitem__(self, at):
        for (part, _), value in zip(PARTS, self.now[1].choice):
            if part == at:
                return value
        raise InvalidRule(at)

    def __setitem__(self, at, worth):
        self.put((self.now[0], self.now[1].turned(at, worth)))

    def __ior__(self, other):
        check_kind(other)
        self.kinds = tuple([kind for kind in KINDS if kind == other or kind in self.kinds])
        return self

    def __isub__(self, other):
        check_kind(other)
        self.kinds = tuple([kind for kind in self.kinds if kind != other])
        return self
