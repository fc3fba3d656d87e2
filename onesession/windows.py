"""An app that is open in several windows at once."""

from onesession.basics import is_below, is_choice, is_integer, replaced, without
from onesession.deeds import all_deeds, is_deed
from onesession.errors import BadDeed, InvalidWindows, NoPart
from onesession.judging import faults
from onesession.running import begin, step
from onesession.standings import ACTS, INPUTS, TIMERS, is_quiet

ORDERS = ("arrival", "count", "stamp")
NUMBERS = (2, 3)


class Windows:
    """The windows of an app under a rule, the inputs that they share, and the order of what they hear."""

    def __init__(self, app, rule, shared, order, number):
        if not is_choice(app.input_names, shared):
            raise InvalidWindows("shared")
        if order not in ORDERS:
            raise InvalidWindows("order")
        if number not in NUMBERS:
            raise InvalidWindows("number")
        self.app = app
        self.rule = rule
        self.shared = shared
        self.order = order
        self.number = number

    def __eq__(self, other):
        return (isinstance(other, Windows) and self.app == other.app and self.rule == other.rule
                and self.shared == other.shared and self.order == other.order and self.number == other.number)


class WindowStep:
    """The standing of windows behind a deed, the Steps of their sessions, and the message that was heard."""

    def __init__(self, standing, steps, heard):
        self.standing = standing
        self.steps = steps
        self.heard = heard


def is_window_deed(windows, value):
    """Tell whether a value is a deed of windows."""
    if not isinstance(value, tuple) or len(value) != 3 or not is_below(value[1], windows.number):
        return False
    if value[0] == "at":
        return is_deed(windows.app, value[2])
    return value[0] == "hear" and is_integer(value[2]) and value[2] >= 0


def all_window_deeds(windows, standing):
    """Return the list of the deeds of windows, with those of the messages that are there."""
    sessions, _, messages = standing
    own = [("at", window, deed) for window, session in enumerate(sessions) for deed in all_deeds(windows.app, session)]
    heard = [("hear", window, number) for window in range(windows.number)
             for number in range(len(places_to(messages, window)))]
    return own + heard


def places_to(messages, window):
    """Return the list of the positions of the messages to a window."""
    return [at for at, message in enumerate(messages) if message[0] == window]


def begin_windows(windows):
    """Return the WindowStep that begins a session in each window."""
    steps = tuple([begin(windows.app, windows.rule) for _ in range(windows.number)])
    marks = tuple([(0, (0, 0)) for _ in windows.shared])
    sessions = tuple([first.standing for first in steps])
    return WindowStep((sessions, (marks,) * windows.number, ()), steps, None)


def step_windows(windows, standing, deed):
    """Return the WindowStep of a deed that is done in a standing of windows."""
    if not is_window_deed(windows, deed):
        raise BadDeed(deed)
    head, window, item = deed
    if head == "at":
        return act_in(windows, standing, window, item)
    places = places_to(standing[2], window)
    if item >= len(places):
        return WindowStep(standing, (None,) * windows.number, None)
    return hear(windows, standing, window, places[item])


def only_in(windows, window, done):
    """Return the tuple of the Steps of all windows, where only one of them has done a deed."""
    return replaced((None,) * windows.number, window, done)


def act_in(windows, standing, window, deed):
    """Do a deed in the session of a window, and tell the other windows if a shared input has changed."""
    sessions, stamps, messages = standing
    done = step(windows.app, windows.rule, sessions[window], deed)
    marks = stamps[window]
    for at, slot in enumerate(windows.shared):
        word = word_in(windows, done.standing, slot)
        if word != word_in(windows, sessions[window], slot):
            stamp = (marks[at][0] + 1, window)
            marks = replaced(marks, at, (stamp[0], stamp))
            others = [to for to in range(windows.number) if to != window]
            messages = messages + tuple([(to, slot, word, stamp) for to in others])
    now = (replaced(sessions, window, done.standing), replaced(stamps, window, marks), messages)
    return WindowStep(now, only_in(windows, window, done), None)


def word_in(windows, session, slot):
    """Return the word that an input has in the session of a window."""
    return session[INPUTS][windows.app.input_names.index(slot)]


def hear(windows, standing, window, place):
    """Let the message at a position arrive in its window."""
    sessions, stamps, messages = standing
    _, slot, word, stamp = messages[place]
    at = windows.shared.index(slot)
    seen, known = stamps[window][at]
    taken = is_newer(windows.order, stamp, known)
    mark = (max(seen, stamp[0]), stamp if taken else known)
    stamps = replaced(stamps, window, replaced(stamps[window], at, mark))
    steps = (None,) * windows.number
    if taken:
        done = step(windows.app, windows.rule, sessions[window], ("set", slot, word))
        sessions = replaced(sessions, window, done.standing)
        steps = only_in(windows, window, done)
    return WindowStep((sessions, stamps, without(messages, place)), steps, (window, slot, word, stamp, taken))


def is_newer(order, stamp, known):
    """Tell whether a message with a stamp is taken where the input has another one."""
    if order == "count":
        return stamp[0] > known[0]
    return order == "arrival" or stamp > known


def is_all_quiet(standing):
    """Tell whether there are no messages, and no acts and no timers in any window."""
    sessions, _, messages = standing
    return messages == () and all([is_quiet(session) for session in sessions])


def words_of(windows, standing, slot):
    """Return the tuple of the words that an input has in the windows."""
    if slot not in windows.app.input_names:
        raise NoPart(slot)
    return tuple([word_in(windows, session, slot) for session in standing[0]])


def own_deeds(windows, deeds, window):
    """Return the list of the deeds of the app that the session of a window does."""
    for deed in deeds:
        if not is_window_deed(windows, deed):
            raise BadDeed(deed)
    if not is_below(window, windows.number):
        raise NoPart(window)
    own = []
    standing = begin_windows(windows).standing
    for deed in deeds:
        shown = step_windows(windows, standing, deed)
        standing = shown.standing
        if shown.steps[window] is not None:
            own.append(deed[2] if shown.heard is None else ("set", shown.heard[1], shown.heard[2]))
    return own


def settling(windows, standing):
    """Return a list of deeds of windows behind which all is quiet."""
    # In this order nothing comes back: a timer may send messages and begin acts, and what is heard may
    # begin acts, but nothing that is heard puts a timer, and no landing puts a timer or sends a message.
    told = []
    for window in range(windows.number):
        while standing[0][window][TIMERS] != ():
            standing = done_too(windows, standing, ("at", window, ("timer", 0)), told)
    while standing[2] != ():
        standing = done_too(windows, standing, ("hear", standing[2][0][0], 0), told)
    for window in range(windows.number):
        while standing[0][window][ACTS] != ():
            standing = done_too(windows, standing, ("at", window, ("land", 0)), told)
    return told


def done_too(windows, standing, deed, told):
    """Add a deed to those that were told, and return the standing behind it."""
    told.append(deed)
    return step_windows(windows, standing, deed).standing


def window_faults(windows, shown):
    """Return the list of the faults that a WindowStep shows."""
    found = []
    for window, done in enumerate(shown.steps):
        if done is not None:
            found.extend([(window,) + fault for fault in faults(windows.app, windows.rule, done)])
    if is_all_quiet(shown.standing):
        found.extend([("apart", slot) for slot in windows.shared if is_apart(windows, shown.standing, slot)])
    return found


def is_apart(windows, standing, slot):
    """Tell whether an input has not the same word in all windows."""
    words = words_of(windows, standing, slot)
    return any([word != words[0] for word in words])


def apart_inputs(windows):
    """Return the list of the shared inputs that can be apart when all is quiet."""
    # With two words the count of a change tells its word, and no two changes have the same stamp.
    if windows.order == "stamp" or (windows.order == "count" and len(windows.app.words) == 2):
        return []
    return list(windows.shared)


def apart_session(windows, slot):
    """Return a list of deeds of windows whose last one shows that a shared input is apart, or None."""
    if slot not in windows.shared:
        raise NoPart(slot)
    if slot not in apart_inputs(windows):
        return None
    first = dict(windows.app.inputs)[slot]
    others = [word for word in windows.app.words if word != first]
    if windows.order == "arrival":
        told = [("at", 0, ("set", slot, others[0])), ("at", 0, ("set", slot, first)), ("hear", 1, 1), ("hear", 1, 0)]
    else:
        told = [("at", window, ("set", slot, others[window])) for window in (0, 1)]
    standing = begin_windows(windows).standing
    for deed in told:
        standing = step_windows(windows, standing, deed).standing
    return told + settling(windows, standing)
