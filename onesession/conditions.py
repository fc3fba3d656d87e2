"""Conditions on the tables of an app under which its sessions can have a fault.

Each reason is a tuple that names where a condition holds.
"""

from onesession.basics import replaced
from onesession.judging import check_due_in, checks_of
from onesession.standings import call_at, lets, listed_now, states


def spots(app, slot):
    """Return the list of the spots (inputs, editions, ROWWORD) of a late slot."""
    words = app.words if is_of_rows(app, slot) else (None,)
    return [(inputs, editions, word) for inputs, editions in states(app) for word in words]


def is_of_rows(app, slot):
    """Tell whether a late slot is that of the rows."""
    return app.rows is not None and slot == app.rows[2]


def call_in(app, slot, spot):
    """Return the call of a late slot in a spot."""
    inputs, editions, word = spot
    return call_at(app, slot, inputs, editions, word)


def result_in(app, slot, spot):
    """Return the word to which the call of a late slot in a spot leads."""
    inputs, editions, word = spot
    moment = app.moments[(inputs, editions)]
    return moment["row dues"][word] if is_of_rows(app, slot) else moment["dues"][slot]


def compared(rule, call):
    """Return what a rule compares of a call."""
    edition, given = call
    return (edition if rule.code else None, given if rule.words else None)


def told_apart(rule, call, other):
    """Tell whether a rule tells two calls apart."""
    return compared(rule, call) != compared(rule, other)


def pages_come_to(app):
    """Return the tuple of the pages that can be come to."""
    return tuple([page for page in app.page_names if page == app.page_names[0] or states_letting(app, page) != []])


def states_letting(app, page):
    """Return the list of the states in which the guard of a page lets."""
    return [state for state in states(app) if lets(app, page, *state)]


def spots_letting(app, slot, page):
    """Return the list of the spots of a late slot in which the guard of a page lets."""
    return [spot for spot in spots(app, slot) if lets(app, page, spot[0], spot[1])]


def needing_pages(app, slot):
    """Return the list of the pages that can be come to and need a late slot."""
    return [page for page in pages_come_to(app) if slot in app.page_named(page)[1]]


def wanting_pages(app, rule, slot):
    """Return the list of the pages on which a late slot is wanted, or [None] if it is wanted everywhere."""
    if rule.ask == "eager" or slot in checks_of(app):
        return [None]
    return needing_pages(app, slot)


def unsettled_reason(app, rule, slot):
    """Return a reason why a late slot can stay unsettled, or None."""
    found = late_reason(app, rule, slot)
    if found is None:
        found = return_reason(app, rule, slot)
    if found is None:
        found = saved_reason(app, rule, slot)
    return found


def takes_elder(rule):
    """Tell whether a rule begins one act beside another and lets the elder one be taken last."""
    return rule.again == "change" and rule.one == "many" and not rule.newest


def late_reason(app, rule, slot):
    """Return a reason for an elder act that is taken last, or None."""
    pages = wanting_pages(app, rule, slot)
    if pages == [] or not takes_elder(rule):
        return None
    # If any two spots with the same mark will do, one of them will do beside the first of this mark.
    firsts = {}
    for spot in spots(app, slot):
        elder = firsts.setdefault(compared(rule, call_in(app, slot, spot)), spot)
        if word_mark(app, rule, slot, elder) != word_mark(app, rule, slot, spot):
            return ("late", pages[0], elder, spot)
    return None


def word_mark(app, rule, slot, spot):
    """Return what is unlike if the word of another spot is wrong in a spot and stays there."""
    # Under keep "clear" a word that was made from another call goes, even if it is the due one.
    return result_in(app, slot, spot) if rule.keep == "keep" else call_in(app, slot, spot)


def return_reason(app, rule, slot):
    """Return a reason for a page that is left and come back to, or None."""
    if rule.again != "change" or rule.ask != "needed" or slot in checks_of(app):
        return None
    needing = needing_pages(app, slot)
    others = [name for name in pages_come_to(app) if name not in needing]
    found = [(name, left_for) + pair for name in needing for left_for in others
             for pair in leavings(app, rule, slot, name, left_for)]
    marks = {call_mark(app, rule, slot, any_spot): any_spot for any_spot in spots(app, slot)}
    if found == [] or len(marks) == 1:
        return None
    page, other, spot, leaving = found[0]
    own = call_mark(app, rule, slot, spot)
    away = [marks[mark] for mark in marks if mark != own]
    return ("return", page, other, spot, away[0], leaving)


def call_mark(app, rule, slot, spot):
    """Return what is unlike in two spots if the call of the one is not as good as that of the other."""
    call = call_in(app, slot, spot)
    return compared(rule, call) if rule.keep == "keep" else call


def leavings(app, rule, slot, page, other):
    """Return the list of the pairs (SPOT, LEAVING) in which a page can be left for another one."""
    stays = spots_letting(app, slot, page)
    if rule.turn == "loaded":
        return [(spot, None) for spot in stays]
    gone = spots_letting(app, slot, other)
    if rule.one == "one":
        return [(spot, gone[0]) for spot in stays if gone != []]
    by_call = {call_in(app, slot, spot): spot for spot in gone}
    found = [(spot, by_call.get(call_in(app, slot, spot))) for spot in stays]
    return [pair for pair in found if pair[1] is not None]


def saved_reason(app, rule, slot):
    """Return a reason for a session that is opened again, or None."""
    by_result = {result_in(app, slot, spot): spot for spot in spots(app, slot)}
    for page in wanting_pages(app, rule, slot):
        for last in spots_opened(app, slot, page):
            firsts = spots_saved(app, rule, slot, last, by_result)
            if firsts != []:
                return ("saved", page, firsts[0], last)
    return None


def spots_opened(app, slot, page):
    """Return the list of the spots in which a page can be come to when a session is opened; it may be None."""
    if page is None or page == app.page_names[0]:
        return spots(app, slot)
    return spots_letting(app, slot, page)


def spots_saved(app, rule, slot, last, by_result):
    """Return a list of the spots in which a word can be asked for that is wrong in the last one and stays."""
    if rule.saves == "records" and rule.again == "change":
        return [last]
    if rule.saves == "values" and rule.keep == "keep":
        return [by_result[word] for word in by_result if word != result_in(app, slot, last)]
    return []


def held_walk(app, rule, handler, first, second):
    """Return a shortest list of states from the first to the second over which a handler holds, or None."""
    before = walked_from(app, rule, handler, first)
    if second not in before:
        return None
    walk = [second]
    while walk[-1] != first:
        walk.append(before[walk[-1]])
    return walk[::-1]


def walked_from(app, rule, handler, first):
    """Return the dict of the states to which walks lead from the first one, each with the state before it."""
    before = {first: None}
    mark = held_mark(app, rule, handler, first)
    left = [first]
    at = 0
    while at < len(left):
        state = left[at]
        at += 1
        for beside in states_beside(app, state):
            if beside not in before and held_mark(app, rule, handler, beside) == mark:
                before[beside] = state
                left.append(beside)
    return before


def states_beside(app, state):
    """Return the list of the states that differ from a state in one input or in one edition."""
    inputs, editions = state
    beside = [(replaced(inputs, place, word), editions) for place, old in enumerate(inputs)
              for word in app.words if word != old]
    for at, (_, count) in enumerate(app.modules):
        beside.extend([(inputs, replaced(editions, at, number)) for number in range(count) if number != editions[at]])
    return beside


def held_mark(app, rule, handler, state):
    """Return what is the same in two states if a handler holds over the step between them."""
    inputs, editions = state
    edition = editions[app.module_names.index(app.handler_named(handler)[1])]
    return (listed_now(app, handler, inputs, editions), edition if rule.swap == "renew" else None)


def elder_reason(app, rule, handler):
    """Return a reason why a handler can be called as of an earlier moment, or None."""
    _, _, page, _, _, _, when = app.handler_named(handler)
    if page not in pages_come_to(app):
        return None
    for group in held_groups(app, rule, handler, when):
        first = outcome_in(app, handler, group[0])
        for state in group:
            if outcome_in(app, handler, state) != first:
                return ("held", group[0], state)
    return None


def held_groups(app, rule, handler, when):
    """Return the list of the lists of states between any two of which a call of a handler can be held."""
    if when == "later":
        return [states(app)] if rule.timers == "held" else []
    return walked_groups(app, rule, handler) if rule.holds == "listed" else []


def walked_groups(app, rule, handler):
    """Return the list of the lists of states between any two of which a walk leads."""
    groups = []
    seen = {}
    for state in states(app):
        if state not in seen:
            group = list(walked_from(app, rule, handler, state))
            groups.append(group)
            for other in group:
                seen[other] = True
    return groups


def outcome_in(app, handler, state):
    """Return the word to which the call of a handler in a state leads."""
    return app.moments[state]["outcomes"][handler]


def barred_reason(app, rule, page):
    """Return a reason why a page can be shown though its guard does not let, or None."""
    if rule.turn != "loaded" or rule.guard != "begin" or app.page_named(page)[1] == ():
        return None
    letting = states_letting(app, page)
    shut = [state for state in states(app) if not lets(app, page, *state)]
    others = [other for other in pages_left_for(app, page) if other is None or is_kept_off(app, rule, page, other)]
    if letting == [] or shut == [] or others == []:
        return None
    return ("way", others[0], letting[0], shut[0])


def pages_left_for(app, page):
    """Return the list of the pages from which a page may have to be come to; None is any page."""
    if page != app.page_names[0]:
        return [None]
    return [other for other in pages_come_to(app) if other != page]


def is_kept_off(app, rule, page, other):
    """Tell whether the first page can need something that is not there when it is gone to from another page."""
    there = app.page_named(other)[1]
    for slot in app.page_named(page)[1]:
        if is_of_rows(app, slot) or slot not in there:
            return True
        if rule.keep == "clear" and has_unlike_calls(app, slot):
            return True
    return False


def has_unlike_calls(app, slot):
    """Tell whether a late slot has two unlike calls in its spots."""
    calls = [call_in(app, slot, spot) for spot in spots(app, slot)]
    return any([call != calls[0] for call in calls])


def sent_reason(app, rule, check):
    """Return a reason why the form can be sent though a check is not right, or None."""
    wrong = [each for each in states(app) if not is_right_in(app, check, each)]
    if rule.sending == "go":
        return ("sent", "go", wrong[0], ()) if wrong != [] else None
    if rule.keep != "keep":
        return None
    for how in hows(rule):
        tables = [right_states(app, rule, how, slot) for slot in app.form]
        for state in wrong:
            places = places_in(app, rule, how, state, tables)
            if places is not None:
                return ("sent", how, state, places)
    return None


def is_right_in(app, check, state):
    """Tell whether the due word of a check in a state is the right word."""
    return check_due_in(app, check, *state) == app.right


def hows(rule):
    """Return the list of the ways in which a check can have an old word that is right."""
    found = ["late"] if takes_elder(rule) else []
    if rule.saves == "values" or (rule.saves == "records" and rule.again == "change"):
        found.append("saved")
    return found


def right_states(app, rule, how, check):
    """Return the dict of the states in which a late check is right, one for each mark; a made one has none."""
    if check not in app.late_names:
        return {}
    return {place_mark(app, rule, how, check, state): state for state in states(app) if is_right_in(app, check, state)}


def place_mark(app, rule, how, check, state):
    """Return what has to be the same in a state and in the place of a check in it."""
    if how == "saved" or check not in app.late_names:
        return None
    return compared(rule, call_at(app, check, *state))


def places_in(app, rule, how, state, tables):
    """Return the tuple of the places of all checks in a state, or None if one that is not right has none."""
    places = ()
    for check, table in zip(app.form, tables):
        place = None
        if not is_right_in(app, check, state):
            mark = place_mark(app, rule, how, check, state)
            if mark not in table:
                return None
            place = table[mark]
        places = places + (place,)
    return places
