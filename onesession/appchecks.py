"""What the arguments of an app have to be; the first wrong one is told."""

from onesession.basics import is_choice, is_integer, is_name, names_of
from onesession.errors import InvalidApp
from onesession.exprs import wrong_path

COUNTS = (1, 2)
WHENS = ("now", "later")


def check_words(words):
    """Raise InvalidApp if the words are wrong."""
    check_length("words", words, 2, 3)
    for at, word in enumerate(words):
        if not is_name(word) or word in words[:at]:
            raise InvalidApp("words", (at,))


def check_modules(modules):
    """Raise InvalidApp if the modules are wrong."""
    check_length("modules", modules, 1, 2)
    for at, item in enumerate(modules):
        if not is_module(names_of(modules[:at]), item):
            raise InvalidApp("modules", (at,))


def check_inputs(words, inputs):
    """Raise InvalidApp if the inputs are wrong."""
    check_length("inputs", inputs, 1, 3)
    for at, item in enumerate(inputs):
        if not is_first_word(words, names_of(inputs[:at]), item):
            raise InvalidApp("inputs", (at,))


def check_made(words, modules, inputs, made):
    """Raise InvalidApp if the made slots are wrong."""
    check_length("made", made, 0, 3)
    for at, item in enumerate(made):
        slots = names_of(inputs) + names_of(made[:at])
        if not is_maker(modules, slots, item):
            raise InvalidApp("made", (at,))
        check_exprs("made", (at,), words, slots, item[2])


def check_late(words, modules, readable, late):
    """Raise InvalidApp if the late slots are wrong; readable are all inputs and made slots."""
    check_length("late", late, 0, 3)
    for at, item in enumerate(late):
        if not is_maker(modules, readable + names_of(late[:at]), item):
            raise InvalidApp("late", (at,))
        check_exprs("late", (at,), words, readable, item[2])


def check_rows(words, modules, readable, late, rows):
    """Raise InvalidApp if the rows are wrong."""
    if rows is None:
        return
    check_length("rows", rows, 5, 5)
    slot, word, late_slot, module, exprs = rows
    taken = readable + names_of(late)
    if not is_first_word(words, taken, (slot, word)):
        raise InvalidApp("rows", ())
    if not is_maker(modules, taken + (slot,), (late_slot, module, exprs)):
        raise InvalidApp("rows", ())
    check_exprs("rows", (), words, readable + (slot,), exprs)


def check_pages(words, modules, readable, late_slots, pages):
    """Raise InvalidApp if the pages are wrong."""
    check_length("pages", pages, 1, 3)
    for at, item in enumerate(pages):
        if not is_page(modules, late_slots, names_of(pages[:at]), item):
            raise InvalidApp("pages", (at,))
        if item[2] is not None:
            check_exprs("pages", (at,), words, readable, item[2][1])


def check_handlers(app, readable, handlers):
    """Raise InvalidApp if the handlers are wrong; the app has its other parts already."""
    check_length("handlers", handlers, 0, 2)
    for at, item in enumerate(handlers):
        if not is_handler(app, readable, names_of(handlers[:at]), item):
            raise InvalidApp("handlers", (at,))
        check_exprs("handlers", (at,), app.words, readable, item[4])


def check_form(checkable, form):
    """Raise InvalidApp if the form is wrong; checkable are the slots that a check may be."""
    if form is None:
        return
    check_length("form", form, 1, 2)
    for at, slot in enumerate(form):
        if slot not in checkable or slot in form[:at]:
            raise InvalidApp("form", (at,))


def check_length(part, items, least, most):
    """Raise InvalidApp if an argument is not a tuple with a right number of items."""
    if not isinstance(items, tuple) or not least <= len(items) <= most:
        raise InvalidApp(part, ())


def check_exprs(part, path, words, slots, exprs):
    """Raise InvalidApp with the path of the first wrong node of some expressions."""
    for at, expr in enumerate(exprs):
        wrong = wrong_path(words, slots, expr)
        if wrong is not None:
            raise InvalidApp(part, path + (at,) + wrong)


def is_new(taken, value):
    """Tell whether a value is a name that is not taken."""
    return is_name(value) and value not in taken


def is_module(taken, item):
    """Tell whether an item is a pair (NAME, COUNT)."""
    if not isinstance(item, tuple) or len(item) != 2:
        return False
    return is_new(taken, item[0]) and is_integer(item[1]) and item[1] in COUNTS


def is_first_word(words, taken, item):
    """Tell whether an item is a pair (SLOT, WORD)."""
    if not isinstance(item, tuple) or len(item) != 2:
        return False
    return is_new(taken, item[0]) and item[1] in words


def is_maker(modules, taken, item):
    """Tell whether an item is a tuple (SLOT, MODULE, EXPRS), whatever the expressions are."""
    if not isinstance(item, tuple) or len(item) != 3:
        return False
    return is_new(taken, item[0]) and fits_module(modules, item[1], item[2])


def fits_module(modules, module, exprs):
    """Tell whether a value names a module, and another one has an item for each of its editions."""
    if module not in names_of(modules):
        return False
    return isinstance(exprs, tuple) and len(exprs) == dict(modules)[module]


def is_page(modules, late_slots, taken, item):
    """Tell whether an item is a page, whatever the expressions of its guard are."""
    if not isinstance(item, tuple) or len(item) != 3:
        return False
    if not is_new(taken, item[0]) or not is_choice(late_slots, item[1]):
        return False
    guard = item[2]
    if guard is None:
        return True
    return isinstance(guard, tuple) and len(guard) == 2 and fits_module(modules, guard[0], guard[1])


def is_handler(app, readable, taken, item):
    """Tell whether an item is a handler, whatever its expressions are."""
    if not isinstance(item, tuple) or len(item) != 7:
        return False
    name, module, page, target, exprs, listed, when = item
    if not is_new(taken, name) or not fits_module(app.modules, module, exprs):
        return False
    if page not in app.page_names or target not in app.input_names:
        return False
    return is_choice(readable, listed) and when in WHENS
