"""Texts of apps that are read line by line, each line with what may stand behind those ahead of it."""

from onesession.appchecks import COUNTS, WHENS, is_new
from onesession.apps import App
from onesession.basics import is_choice, names_of
from onesession.exprs import DEEPEST, wrong_path

MOST_MODULES = 2
MOST_INPUTS = 3
MOST_MADE = 3
MOST_LATE = 3
MOST_PAGES = 3
MOST_HANDLERS = 2
MOST_CHECKS = 2


def app_in(lines):
    """Return the app whose text the next lines are."""
    words = words_in(lines)
    modules = modules_in(lines)
    counts = dict(modules)
    inputs = inputs_in(lines, words)
    made = made_in(lines, words, counts, names_of(inputs))
    readable = names_of(inputs) + names_of(made)
    late = late_in(lines, words, counts, readable)
    rows = rows_in(lines, words, counts, readable, names_of(late))
    late_slots = names_of(late) if rows is None else names_of(late) + (rows[2],)
    pages = pages_in(lines, words, counts, readable, late_slots)
    handlers = handlers_in(lines, words, counts, readable, (names_of(pages), names_of(inputs)))
    form = form_in(lines, names_of(made) + names_of(late))
    return App(words, modules, inputs, pages, made=made, late=late, rows=rows, handlers=handlers, form=form)


def words_in(lines):
    """Return the words that the next line has."""
    parts = lines.parts()
    words = tuple(parts[1:])
    lines.take(parts[:1] == ["words"] and len(words) in (2, 3)
               and all([is_new(words[:at], word) for at, word in enumerate(words)]))
    return words


def modules_in(lines):
    """Return the modules that the next lines have; there is at least one."""
    modules = ()
    while modules == () or (len(modules) < MOST_MODULES and lines.begins_with("module")):
        parts = lines.parts()
        lines.take(len(parts) == 3 and parts[0] == "module" and is_new(names_of(modules), parts[1])
                   and parts[2] in [str(count) for count in COUNTS])
        modules = modules + ((parts[1], int(parts[2])),)
    return modules


def inputs_in(lines, words):
    """Return the inputs that the next lines have; there is at least one."""
    inputs = ()
    while inputs == () or (len(inputs) < MOST_INPUTS and lines.begins_with("input")):
        parts = lines.parts()
        lines.take(len(parts) == 3 and parts[0] == "input" and is_new(names_of(inputs), parts[1]) and parts[2] in words)
        inputs = inputs + ((parts[1], parts[2]),)
    return inputs


def made_in(lines, words, counts, inputs):
    """Return the made slots that the next lines have."""
    made = ()
    while len(made) < MOST_MADE and lines.begins_with("made"):
        slots = inputs + names_of(made)
        made = made + (maker_in(lines, words, counts, slots, slots),)
    return made


def late_in(lines, words, counts, readable):
    """Return the late slots that the next lines have; readable are all inputs and made slots."""
    late = ()
    while len(late) < MOST_LATE and lines.begins_with("late"):
        late = late + (maker_in(lines, words, counts, readable + names_of(late), readable),)
    return late


def maker_in(lines, words, counts, taken, slots):
    """Return the tuple (SLOT, MODULE, EXPRS) that the next lines have; the expressions read these slots."""
    parts = lines.parts()
    lines.take(len(parts) == 3 and is_new(taken, parts[1]) and parts[2] in counts)
    return (parts[1], parts[2], exprs_in(lines, words, slots, counts[parts[2]]))


def rows_in(lines, words, counts, readable, late):
    """Return the rows that the next lines have, or None."""
    if not lines.begins_with("rows"):
        return None
    parts = lines.parts()
    taken = readable + late
    lines.take(len(parts) == 5 and is_new(taken, parts[1]) and parts[2] in words
               and is_new(taken + (parts[1],), parts[3]) and parts[4] in counts)
    _, slot, word, late_slot, module = parts
    return (slot, word, late_slot, module, exprs_in(lines, words, readable + (slot,), counts[module]))


def pages_in(lines, words, counts, readable, late_slots):
    """Return the pages that the next lines have; there is at least one."""
    pages = ()
    while pages == () or (len(pages) < MOST_PAGES and lines.begins_with("page")):
        parts = lines.parts()
        needs = tuple(parts[2:])
        lines.take(parts[:1] == ["page"] and len(parts) > 1 and is_new(names_of(pages), parts[1])
                   and is_choice(late_slots, needs))
        pages = pages + ((parts[1], needs, guard_in(lines, words, counts, readable)),)
    return pages


def guard_in(lines, words, counts, readable):
    """Return the guard that the next lines have, or None."""
    if not lines.begins_with("guard"):
        return None
    parts = lines.parts()
    lines.take(len(parts) == 2 and parts[1] in counts)
    return (parts[1], exprs_in(lines, words, readable, counts[parts[1]]))


def handlers_in(lines, words, counts, readable, known):
    """Return the handlers that the next lines have; known are the names of the pages and those of the inputs."""
    pages, inputs = known
    handlers = ()
    while len(handlers) < MOST_HANDLERS and lines.begins_with("handler"):
        parts = lines.parts()
        lines.take(len(parts) > 5 and is_new(names_of(handlers), parts[1]) and parts[2] in counts
                   and parts[3] in pages and parts[4] in inputs and parts[5] in WHENS
                   and is_choice(readable, tuple(parts[6:])))
        _, name, module, page, target, when, *listed = parts
        exprs = exprs_in(lines, words, readable, counts[module])
        handlers = handlers + ((name, module, page, target, exprs, tuple(listed), when),)
    return handlers


def form_in(lines, checkable):
    """Return the form that the next line has, or None."""
    if not lines.begins_with("form"):
        return None
    form = tuple(lines.parts()[1:])
    lines.take(1 <= len(form) <= MOST_CHECKS and is_choice(checkable, form))
    return form


def exprs_in(lines, words, slots, count):
    """Return so many expressions that the next lines have, one on each line."""
    exprs = ()
    for _ in range(count):
        parts = lines.parts()
        expr, end = expr_at(len(words), parts, 0, 0)
        lines.take(end == len(parts) and wrong_path(words, slots, expr) is None)
        exprs = exprs + (expr,)
    return exprs


def expr_at(size, parts, at, depth):
    """Return the expression whose items begin at a position, and the position behind it; size is the number of words.

    What has none of the four forms is None, which is a wrong node wherever it stands.
    """
    if depth == DEEPEST or at + 1 >= len(parts):
        return None, at
    head = parts[at]
    if head in ("word", "slot"):
        return (head, parts[at + 1]), at + 2
    if head == "map":
        part, end = expr_at(size, parts, at + 1 + size, depth + 1)
        return (head, tuple(parts[at + 1:at + 1 + size]), part), end
    if head == "pair":
        starts = [at + 1 + size * number for number in range(size)]
        table = tuple([tuple(parts[start:start + size]) for start in starts])
        first, middle = expr_at(size, parts, at + 1 + size * size, depth + 1)
        second, end = expr_at(size, parts, middle, depth + 1)
        return (head, table, first, second), end
    return None, at
