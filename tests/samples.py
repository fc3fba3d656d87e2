"""Apps, rules and values that several tests use."""

import copy
import random

from onesession.apps import App
from onesession.deeds import all_deeds
from onesession.rules import PARTS, Rule
from onesession.running import begin, step

YN = ("yes", "no")
YNM = ("yes", "no", "may")
X = ("slot", "x")
Y = ("slot", "y")
NOT_X = ("map", ("no", "yes"), X)
BOTH = ("pair", (("yes", "no"), ("no", "no")), X, Y)

# Values of every kind that are no names, words, slots, deeds, pages and so on.
STRANGE = (
    None, True, False, 0, 1, -1, 10 ** 30, "", "X", "zzz", "a b", "yes\n", "abcdefghi", (), ("x",), ("slot", "x"), [],
    ["x"], ["slot", "x"], [[]], {}, {"x": 1}, {"yes": ["no"]}, ((),), (None, None), ([], {}),
)


def interface_app():
    """The app of the examples of the interface."""
    late = (("d", "m", (X, NOT_X)),)
    pages = (("home", (), None), ("view", ("d",), None))
    return App(YN, (("m", 2),), (("x", "yes"),), pages, late=late)


def full_arguments():
    """The arguments of an app that has something in every part."""
    return {
        "words": YN,
        "modules": (("m", 1), ("n", 2)),
        "inputs": (("x", "yes"), ("y", "no")),
        "pages": (("home", (), None), ("view", ("d", "g"), ("m", (X,))), ("last", ("e",), ("n", (X, Y)))),
        "made": (("a", "m", (NOT_X,)), ("b", "n", (Y, ("slot", "a")))),
        "late": (("d", "n", (X, ("slot", "b"))), ("e", "m", (BOTH,))),
        "rows": ("r", "no", "g", "n", (("slot", "r"), X)),
        "handlers": (("h", "m", "home", "x", (NOT_X,), ("x", "a"), "now"), ("k", "n", "view", "y", (X, Y), (), "later")),
        "form": ("a", "d"),
    }


def full_app(**changes):
    """An app that has something in every part, with some arguments changed."""
    arguments = {**full_arguments(), **changes}
    return App(**arguments)


def after(app, rule, *deeds):
    """The last Step of a session."""
    last = begin(app, rule)
    for deed in deeds:
        last = step(app, rule, last.standing, deed)
    return last


def outcomes(app, rule, *deeds):
    """The list of the events of each deed of a session, without those of the beginning."""
    standing = begin(app, rule).standing
    told = []
    for deed in deeds:
        last = step(app, rule, standing, deed)
        standing = last.standing
        told.append(last.events)
    return told


def with_flag(value):
    """All values that are made from one by a flag in the place of an integer 0 or 1."""
    if isinstance(value, int) and not isinstance(value, bool) and value in (0, 1):
        return [bool(value)]
    if not isinstance(value, tuple):
        return []
    return [value[:at] + (item,) + value[at + 1:] for at, old in enumerate(value) for item in with_flag(old)]


def with_list(value):
    """All values that are made from one by a list in the place of a tuple."""
    if not isinstance(value, tuple):
        return []
    inner = [value[:at] + (item,) + value[at + 1:] for at, old in enumerate(value) for item in with_list(old)]
    return [list(value)] + inner


def random_expr(source, words, slots, nodes=12, depth=6):
    """A random expression with at most so many nodes and so deep."""
    kinds = ["word"] + ["slot"] * (3 if slots else 0)
    if nodes >= 2 and depth >= 2:
        kinds += ["map"] * 2
    if nodes >= 3 and depth >= 2:
        kinds += ["pair"] * 3
    kind = source.choice(kinds)
    if kind == "word":
        return ("word", source.choice(words))
    if kind == "slot":
        return ("slot", source.choice(slots))
    if kind == "map":
        return ("map", random_table(source, words), random_expr(source, words, slots, nodes - 1, depth - 1))
    first = source.randint(1, nodes - 2)
    rows = tuple(random_table(source, words) for _ in words)
    left = random_expr(source, words, slots, first, depth - 1)
    return ("pair", rows, left, random_expr(source, words, slots, nodes - 1 - first, depth - 1))


def random_table(source, words):
    """A random table with one word for each word."""
    return tuple(source.choice(words) for _ in words)


def random_app(source):
    """A random app."""
    words = source.choice((YN, YN, YNM))
    modules = tuple((name, source.randint(1, 2)) for name in ("m", "n")[:source.randint(1, 2)])
    counts = dict(modules)

    def exprs(module, slots):
        return tuple(random_expr(source, words, slots, source.choice((1, 2, 3, 6))) for _ in range(counts[module]))

    def module():
        return source.choice(modules)[0]

    inputs = tuple((slot, source.choice(words)) for slot in ("x", "y", "z")[:source.randint(1, 2)])
    read = [slot for slot, _ in inputs]
    made = ()
    for slot in ("a", "b")[:source.randint(0, 2)]:
        owner = module()
        made += ((slot, owner, exprs(owner, read)),)
        read.append(slot)
    late = tuple((slot, owner, exprs(owner, read)) for slot in ("d", "e")[:source.randint(0, 2)] for owner in [module()])
    rows = None
    if source.random() < 0.6:
        owner = module()
        rows = ("r", source.choice(words), "g", owner, exprs(owner, read + ["r"]))
    slots = [item[0] for item in late] + ([] if rows is None else ["g"])
    pages = ()
    for name in ("home", "view", "last")[:source.randint(1, 3)]:
        owner = module()
        guard = None if source.random() < 0.4 else (owner, exprs(owner, read))
        pages += ((name, tuple(source.sample(slots, source.randint(0, len(slots)))), guard),)
    handlers = ()
    for name in ("h", "k")[:source.randint(0, 2)]:
        owner = module()
        listed = tuple(source.sample(read, source.randint(0, len(read))))
        handlers += ((name, owner, source.choice(pages)[0], source.choice(inputs)[0], exprs(owner, read), listed,
                      source.choice(("now", "later"))),)
    checks = [item[0] for item in made + late]
    form = tuple(source.sample(checks, min(len(checks), source.randint(1, 2)))) or None
    if source.random() < 0.3:
        form = None
    return App(words, modules, inputs, pages, made=made, late=late, rows=rows, handlers=handlers, form=form)


def random_rule(source, **fixed):
    """A random rule, in which some parts may be fixed."""
    choice = {part: source.choice(values) for part, values in PARTS}
    return Rule(**{**choice, **fixed})


def random_deed(source, app, standing):
    """A random deed, more often one that lets something arrive."""
    deeds = all_deeds(app, standing)
    if source.random() < 0.3:
        late = [deed for deed in deeds if deed[0] in ("land", "timer")]
        deeds = late or deeds
    if source.random() < 0.7:
        deeds = [deed for deed in deeds if deed[0] != "reopen"] or deeds
    return source.choice(deeds)


def sources(count, start=0):
    """So many sources of random choices, the same ones in every run."""
    return [random.Random(start + number) for number in range(count)]


def copied(value):
    """A copy of a value, to see later whether the value was changed."""
    return copy.deepcopy(value)


def largest_app(source):
    """A random app with as much as an app may have in every part."""
    def exprs(slots):
        return tuple(random_expr(source, YNM, slots) for _ in range(2))

    def module():
        return source.choice(("m", "n"))

    read = ["x", "y", "z"]
    made = ()
    for slot in ("a", "b", "c"):
        made += ((slot, module(), exprs(read)),)
        read.append(slot)
    late = tuple((slot, module(), exprs(read)) for slot in ("d", "e", "f"))
    rows = ("r", source.choice(YNM), "g", module(), exprs(read + ["r"]))
    pages = tuple((name, tuple(source.sample("defg", source.randint(0, 4))), (module(), exprs(read)))
                  for name in ("home", "view", "last"))
    handlers = tuple((name, module(), source.choice(pages)[0], source.choice("xyz"), exprs(read),
                      tuple(source.sample(read, 2)), when) for name, when in (("h", "now"), ("k", "later")))
    inputs = tuple((slot, source.choice(YNM)) for slot in ("x", "y", "z"))
    return App(YNM, (("m", 2), ("n", 2)), inputs, pages, made=made, late=late, rows=rows, handlers=handlers,
               form=tuple(source.sample("abcdef", 2)))


def tiny_app(source):
    """A random app with so little in every part that all its standings within bounds are few."""
    modules = (("m", source.randint(1, 2)),)
    table = [X, NOT_X, ("word", "yes"), ("word", "no"), X]

    def exprs():
        return tuple(source.choice(table) for _ in range(modules[0][1]))

    late = (("d", "m", exprs()),) if source.random() < 0.7 else ()
    made = (("a", "m", exprs()),) if source.random() < 0.3 else ()
    rows = ("r", "no", "g", "m", tuple(("slot", "r") for _ in exprs())) if source.random() < 0.1 else None
    slots = [item[0] for item in late] + ([] if rows is None else ["g"])
    pages = tuple((name, tuple(slots[:source.randint(0, len(slots))]), source.choice((None, None, ("m", exprs()))))
                  for name in ("home", "view")[:source.randint(1, 2)])
    handlers = ()
    if source.random() < 0.4:
        handlers = (("h", "m", source.choice(pages)[0], "x", exprs(), source.choice(((), ("x",))),
                     source.choice(("now", "later"))),)
    checks = tuple(item[0] for item in made + late)
    form = checks if checks and source.random() < 0.5 else None
    return App(YN, modules, (("x", source.choice(YN)),), pages, made=made, late=late, rows=rows, handlers=handlers, form=form)


def nested(value, deep):
    """Values that have another one in them, so many lists, tuples or dicts deep."""
    found = []
    for wrap in (lambda inner: [inner], lambda inner: (inner,), lambda inner: {"x": inner}):
        inner = value
        for _ in range(deep):
            inner = wrap(inner)
        found.append(inner)
    return found


# Values as large and as deep as a value may be where a point says "any value".
LARGE = tuple([10 ** 3999, 1 - 10 ** 3999, "a" * 4000, ("yes\n" * 1000)[:4000], " ~" * 2000, ("yes",) * 4000, ["x"] * 4000,
               *nested(0, 20), *nested("yes", 20), *nested({}, 20), ([{"x": ([{}],)}],)])
