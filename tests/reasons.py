"""What a reason has to meet, part by part, and all values that have the form of a reason.

It is written from the points [33] to [37] alone, and uses only what holds in the states of an app.
"""

from onesession.standings import call_at, handler_call, lets, listed_now, outcome, result_of, states, words_now


def all_spots(app, slot):
    """All spots of a late slot, in their order."""
    words = app.words if app.rows is not None and slot == app.rows[2] else (None,)
    return [(inputs, editions, word) for inputs, editions in states(app) for word in words]


def call_of(app, slot, spot):
    return call_at(app, slot, *spot)


def word_of(app, slot, spot):
    return result_of(app, slot, call_of(app, slot, spot))


def is_told_apart(rule, call, other):
    return (rule.words and call[1] != other[1]) or (rule.code and call[0] != other[0])


def checks(app):
    return app.form or ()


def needs(app, page):
    return app.page_named(page)[1]


def come_to(app):
    """The pages that can be come to."""
    return [page for page in app.page_names
            if page == app.page_names[0] or any(lets(app, page, *state) for state in states(app))]


def wanting(app, rule, slot):
    """The items of wanting_pages."""
    if rule.ask == "eager" or slot in checks(app):
        return [None]
    return [page for page in come_to(app) if slot in needs(app, page)]


# Late slots

def meets_late(app, rule, slot, page, elder, now):
    if rule.again != "change" or rule.one != "many" or rule.newest or page not in wanting(app, rule, slot):
        return False
    if elder not in all_spots(app, slot) or now not in all_spots(app, slot):
        return False
    if is_told_apart(rule, call_of(app, slot, elder), call_of(app, slot, now)):
        return False
    if rule.keep == "keep":
        return word_of(app, slot, elder) != word_of(app, slot, now)
    return call_of(app, slot, elder) != call_of(app, slot, now)


def meets_return(app, rule, slot, page, other, spot, away, leaving):
    if rule.again != "change" or rule.ask != "needed" or slot in checks(app):
        return False
    if page not in come_to(app) or other not in come_to(app):
        return False
    if slot not in needs(app, page) or slot in needs(app, other):
        return False
    spots = all_spots(app, slot)
    if spot not in spots or away not in spots or not lets(app, page, *spot[:2]):
        return False
    call, gone = call_of(app, slot, spot), call_of(app, slot, away)
    if not is_told_apart(rule, gone, call) and not (rule.keep == "clear" and gone != call):
        return False
    if rule.turn == "loaded":
        return leaving is None
    if leaving not in spots or not lets(app, other, *leaving[:2]):
        return False
    return rule.one == "one" or call_of(app, slot, leaving) == call


def meets_saved(app, rule, slot, page, first, last):
    spots = all_spots(app, slot)
    if page not in wanting(app, rule, slot) or first not in spots or last not in spots:
        return False
    if page is not None and page != app.page_names[0] and not lets(app, page, *last[:2]):
        return False
    if rule.saves == "records" and rule.again == "change" and first == last:
        return True
    unlike = word_of(app, slot, first) != word_of(app, slot, last)
    return rule.saves == "values" and rule.keep == "keep" and unlike


def unsettled_reasons(app, rule, slot):
    """All reasons for a late slot."""
    spots = all_spots(app, slot)
    pages = (None,) + app.page_names
    found = [("late", page, elder, now) for page in pages for elder in spots for now in spots
             if meets_late(app, rule, slot, page, elder, now)]
    if rule.again == "change" and rule.ask == "needed":
        found += [("return", page, other, spot, away, leaving) for page in app.page_names for other in app.page_names
                  for spot in spots for away in spots for leaving in [None] + spots
                  if meets_return(app, rule, slot, page, other, spot, away, leaving)]
    if rule.saves != "nothing":
        found += [("saved", page, first, last) for page in pages for first in spots for last in spots
                  if meets_saved(app, rule, slot, page, first, last)]
    return found


# Handlers

def is_held_step(app, rule, handler, state, other):
    """Tell whether a handler holds over a step between two states, if it is a step."""
    changes = [a != b for a, b in zip(state[0] + state[1], other[0] + other[1])]
    if sum(changes) != 1 or listed_now(app, handler, *state) != listed_now(app, handler, *other):
        return False
    at = app.module_names.index(app.handler_named(handler)[1])
    return rule.swap == "keep" or state[1][at] == other[1][at]


def distances(app, rule, handler, first):
    """The dict of the states to which walks lead from a state, with the fewest steps of such a walk."""
    found = {first: 0}
    grown = True
    while grown:
        grown = False
        for state in states(app):
            near = [found[other] + 1 for other in found if is_held_step(app, rule, handler, other, state)]
            if near and min(near) < found.get(state, 10 ** 9):
                found[state] = min(near)
                grown = True
    return found


def elder_reasons(app, rule, handler):
    """All reasons for a handler."""
    _, _, page, _, _, _, when = app.handler_named(handler)
    if page not in come_to(app) or (rule.holds if when == "now" else rule.timers) not in ("listed", "held"):
        return []
    found = []
    for first in states(app):
        reached = distances(app, rule, handler, first) if when == "now" else states(app)
        for second in reached:
            words = [outcome(app, handler, handler_call(app, handler, *state)) for state in (first, second)]
            if words[0] != words[1]:
                found.append(("held", first, second))
    return found


# Pages

def barred_reasons(app, rule, page):
    """All reasons for a page."""
    if rule.turn != "loaded" or rule.guard != "begin" or not needs(app, page):
        return []
    if page == app.page_names[0]:
        others = [other for other in come_to(app) if other != page and can_be_wanting(app, rule, page, other)]
    else:
        others = [None]
    letting = [state for state in states(app) if lets(app, page, *state)]
    shut = [state for state in states(app) if not lets(app, page, *state)]
    return [("way", other, one, two) for other in others for one in letting for two in shut]


def can_be_wanting(app, rule, page, other):
    for slot in needs(app, page):
        if (app.rows is not None and slot == app.rows[2]) or slot not in needs(app, other):
            return True
        calls = [call_of(app, slot, spot) for spot in all_spots(app, slot)]
        if rule.keep == "clear" and any(call != other_call for call in calls for other_call in calls):
            return True
    return False


# The form

def due_in(app, check, state):
    if check in app.made_names:
        return dict(words_now(app, *state))[check]
    return result_of(app, check, call_at(app, check, *state))


def sent_reasons(app, rule, check):
    """All reasons for a check."""
    wrong = [state for state in states(app) if due_in(app, check, state) != app.right]
    if rule.sending == "go":
        return [("sent", "go", state, ()) for state in wrong]
    if check not in app.late_names or rule.keep != "keep":
        return []
    hows = []
    if rule.again == "change" and rule.one == "many" and not rule.newest:
        hows.append("late")
    if rule.saves == "values" or (rule.saves == "records" and rule.again == "change"):
        hows.append("saved")
    found = []
    for how in hows:
        for state in wrong:
            rows = [()]
            for name in app.form:
                rows = [row + (place,) for row in rows for place in places(app, rule, how, name, state)]
            found += [("sent", how, state, row) for row in rows]
    return found


def places(app, rule, how, check, state):
    """The items that a check may have in PLACES."""
    if due_in(app, check, state) == app.right:
        return [None]
    if check in app.made_names:
        return []
    found = [other for other in states(app) if due_in(app, check, other) == app.right]
    if how == "late":
        call = call_at(app, check, *state)
        found = [other for other in found if not is_told_apart(rule, call_at(app, check, *other), call)]
    return found
