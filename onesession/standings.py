"""What holds in the states of an app and in the standings of a session."""

from onesession.moments import word_called

INPUTS = 0
EDITIONS = 1
ROWS = 2
PAGE = 3
WAY = 4
RECORDS = 5
ACTS = 6
HELD = 7
TIMERS = 8


def states(app):
    """Return the list of all states (inputs, editions) of an app."""
    return list(app.moments)


def words_now(app, inputs, editions):
    """Return the given words of the inputs and the made slots in a state."""
    return app.moments[(inputs, editions)]["given"]


def call_at(app, slot, inputs, editions, row_word=None):
    """Return the call of a late slot in a state; row_word is asked for the slot of rows alone."""
    moment = app.moments[(inputs, editions)]
    if slot in app.late_names:
        return moment["calls"][slot]
    return moment["row calls"][row_word]


def result_of(app, slot, call):
    """Return the word to which a call of a late slot leads."""
    return word_called(app, app.exprs_of(slot)[1], call)


def lets(app, page, inputs, editions):
    """Tell whether the guard of a page lets in a state."""
    return app.moments[(inputs, editions)]["letting"][page]


def handler_call(app, handler, inputs, editions):
    """Return the call of a handler in a state."""
    return app.moments[(inputs, editions)]["handler calls"][handler]


def outcome(app, handler, call):
    """Return the word to which a call of a handler leads."""
    return word_called(app, app.handler_named(handler)[4], call)


def listed_now(app, handler, inputs, editions):
    """Return the words of the listed slots of a handler in a state."""
    return app.moments[(inputs, editions)]["listed"][handler]


def instances(app, rule, standing):
    """Return the tuple of the instances that are there."""
    return instances_there(app, rule, standing[ROWS])


def instances_there(app, rule, rows):
    """Return the tuple of the instances that are there with these rows."""
    late = tuple([(slot, 0) for slot in app.late_names])
    if app.rows is None:
        return late
    slot = app.rows[2]
    if rule.key == "id":
        return late + tuple([(slot, row[0]) for row in rows])
    return late + tuple([(slot, at + 1) for at in range(len(rows))])


def wanted(app, rule, standing):
    """Return the tuple of the wanted instances."""
    slots = wanted_slots(app, rule, standing[PAGE], standing[WAY])
    return tuple([instance for instance in instances(app, rule, standing) if instance[0] in slots])


def wanted_slots(app, rule, page, way):
    """Return the tuple of the slots whose instances are wanted, with this page and this way."""
    if rule.ask == "eager":
        return app.late_slots
    slots = app.page_named(page)[1]
    if way is not None:
        slots = slots + app.page_named(way)[1]
    if app.form is not None:
        slots = slots + app.form
    return slots


def call_now(app, rule, standing, instance):
    """Return the call of an instance that is there."""
    calls = calls_there(app, standing[INPUTS], standing[EDITIONS], standing[ROWS])
    return calls[instances(app, rule, standing).index(instance)]


def calls_there(app, inputs, editions, rows):
    """Return the tuple of the calls of all instances that are there, in their order."""
    moment = app.moments[(inputs, editions)]
    late = tuple([moment["calls"][slot] for slot in app.late_names])
    return late + tuple([moment["row calls"][word] for _, word in rows])


def dues_there(app, inputs, editions, rows):
    """Return the tuple of the due words of all instances that are there, in their order."""
    moment = app.moments[(inputs, editions)]
    late = tuple([moment["dues"][slot] for slot in app.late_names])
    return late + tuple([moment["row dues"][word] for _, word in rows])


def value_of(app, rule, standing, instance):
    """Return the word that is there for an instance, or None."""
    at = instances(app, rule, standing).index(instance)
    return standing[RECORDS][at][0]


def is_quiet(standing):
    """Tell whether there are no acts and no timers."""
    return standing[ACTS] == () and standing[TIMERS] == ()
