"""All errors of the program; each one derives directly from SessionError."""


class SessionError(ValueError):
    """The base class of all errors of the program."""


class InvalidExpr(SessionError):
    """A value is no expression; path is that of its first wrong node."""

    def __init__(self, path):
        self.path = path


class InvalidApp(SessionError):
    """An argument of an app is wrong at a path."""

    def __init__(self, part, path):
        self.part = part
        self.path = path


class NoPart(SessionError):
    """A value is the name of nothing of this kind."""

    def __init__(self, value):
        self.value = value


class InvalidRule(SessionError):
    """A part of a rule has a value that is none of its values, or is no part."""

    def __init__(self, part):
        self.part = part


class BadDeed(SessionError):
    """A value is no deed of the app."""

    def __init__(self, deed):
        self.deed = deed


class BadFault(SessionError):
    """A value is no fault of the app."""

    def __init__(self, fault):
        self.fault = fault


class NoSlot(SessionError):
    """A value is no slot of the app."""

    def __init__(self, slot):
        self.slot = slot


class BatchRefused(SessionError):
    """An item of a batch is no deed of the app."""

    def __init__(self, index):
        self.index = index


class NothingToUndo(SessionError):
    """There is nothing that can be undone."""


class NothingToRedo(SessionError):
    """There is nothing that can be done again."""


class BadJournal(SessionError):
    """An item of a journal is no deed that may stand there."""

    def __init__(self, index):
        self.index = index


class NotSaved(SessionError):
    """A value cannot be what was kept of a session."""


class InvalidWindows(SessionError):
    """An argument of windows is wrong."""

    def __init__(self, part):
        self.part = part


class NoFault(SessionError):
    """There is no such fault."""

    def __init__(self, kind, name):
        self.kind = kind
        self.name = name


class InvalidParts(SessionError):
    """An item of a list of parts is no part of a rule, or stands there twice."""

    def __init__(self, index):
        self.index = index


class InvalidBound(SessionError):
    """A bound is not an integer that may be this bound."""

    def __init__(self, value):
        self.value = value


class LimitExceeded(SessionError):
    """There is more than the limit allows."""

    def __init__(self, limit):
        self.limit = limit


class NoStanding(SessionError):
    """A standing is not one of the book."""


class InvalidKind(SessionError):
    """A value is no kind of faults."""

    def __init__(self, kind):
        self.kind = kind


class NotComparable(SessionError):
    """Two apps cannot be compared because of a part."""

    def __init__(self, part):
        self.part = part


class InvalidRules(SessionError):
    """There are too few or too many rules."""


class InvalidChange(SessionError):
    """An item of a list of changes may not stand there."""

    def __init__(self, index):
        self.index = index


class InvalidText(SessionError):
    """A line of a text cannot stand where it stands."""

    def __init__(self, line):
        self.line = line
