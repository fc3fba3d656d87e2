"""What a value has to be to be a reason, part by part.

Each part is looked for among the values that it may have, so a part may be any value.
"""

from onesession.conditions import call_in, call_mark, held_walk, hows, is_kept_off, is_right_in, needing_pages
from onesession.conditions import outcome_in, pages_come_to, place_mark, result_in, spots, spots_letting
from onesession.conditions import spots_opened, states_letting, takes_elder, told_apart, wanting_pages, word_mark
from onesession.judging import checks_of
from onesession.standings import lets, states


def is_found(app, rule, fault, found):
    """Tell whether a value is a reason for a fault of an app."""
    if not isinstance(found, tuple) or found == ():
        return False
    kind, name = fault
    head, items = found[0], found[1:]
    if kind == "unsettled":
        fits = is_unsettled(app, rule, name, head, items)
    elif kind == "elder":
        fits = head == "held" and len(items) == 2 and is_held(app, rule, name, *items)
    elif kind == "barred":
        fits = head == "way" and len(items) == 3 and is_way(app, rule, name, *items)
    else:
        fits = head == "sent" and len(items) == 3 and is_sent(app, rule, name, *items)
    # What fits is small and made of tuples, but it may have flags in the place of integers.
    return fits and not has_flag(found)


def has_flag(value):
    """Tell whether a flag stands somewhere in a value."""
    if isinstance(value, tuple):
        return any([has_flag(item) for item in value])
    return isinstance(value, bool)


def is_unsettled(app, rule, slot, head, items):
    """Tell whether these are the parts of a reason for a late slot."""
    if head == "late" and len(items) == 3:
        return is_late(app, rule, slot, *items)
    if head == "return" and len(items) == 5:
        return is_return(app, rule, slot, items)
    return head == "saved" and len(items) == 3 and is_saved_reason(app, rule, slot, *items)


def is_late(app, rule, slot, page, elder, now):
    """Tell whether these are the parts of a reason for an elder act that is taken last."""
    known = spots(app, slot)
    if not takes_elder(rule) or page not in wanting_pages(app, rule, slot) or elder not in known or now not in known:
        return False
    if told_apart(rule, call_in(app, slot, elder), call_in(app, slot, now)):
        return False
    return word_mark(app, rule, slot, elder) != word_mark(app, rule, slot, now)


def is_return(app, rule, slot, items):
    """Tell whether these are the parts of a reason for a page that is left and come back to."""
    page, other, spot, away, leaving = items
    if rule.again != "change" or rule.ask != "needed" or slot in checks_of(app):
        return False
    needing = needing_pages(app, slot)
    if page not in needing or other not in pages_come_to(app) or other in needing:
        return False
    if spot not in spots_letting(app, slot, page) or away not in spots(app, slot):
        return False
    if call_mark(app, rule, slot, away) == call_mark(app, rule, slot, spot):
        return False
    if rule.turn == "loaded":
        return leaving is None
    if leaving not in spots_letting(app, slot, other):
        return False
    return rule.one == "one" or call_in(app, slot, leaving) == call_in(app, slot, spot)


def is_saved_reason(app, rule, slot, page, first, last):
    """Tell whether these are the parts of a reason for a session that is opened again."""
    if page not in wanting_pages(app, rule, slot) or first not in spots(app, slot):
        return False
    if last not in spots_opened(app, slot, page):
        return False
    if rule.saves == "records" and rule.again == "change":
        return first == last
    if rule.saves != "values" or rule.keep != "keep":
        return False
    return result_in(app, slot, first) != result_in(app, slot, last)


def is_held(app, rule, handler, first, second):
    """Tell whether these are the parts of a reason for a handler."""
    _, _, page, _, _, _, when = app.handler_named(handler)
    known = states(app)
    if page not in pages_come_to(app) or first not in known or second not in known:
        return False
    if outcome_in(app, handler, first) == outcome_in(app, handler, second):
        return False
    if when == "later":
        return rule.timers == "held"
    return rule.holds == "listed" and held_walk(app, rule, handler, first, second) is not None


def is_way(app, rule, page, other, letting, shut):
    """Tell whether these are the parts of a reason for a page."""
    if rule.turn != "loaded" or rule.guard != "begin" or app.page_named(page)[1] == ():
        return False
    if letting not in states_letting(app, page) or shut not in states(app) or lets(app, page, *shut):
        return False
    if page != app.page_names[0]:
        return other is None
    return other != page and other in pages_come_to(app) and is_kept_off(app, rule, page, other)


def is_sent(app, rule, check, how, state, places):
    """Tell whether these are the parts of a reason for a check of the form."""
    if state not in states(app) or is_right_in(app, check, state) or not isinstance(places, tuple):
        return False
    if rule.sending == "go":
        return how == "go" and places == ()
    if check not in app.late_names or rule.keep != "keep" or how not in hows(rule) or len(places) != len(app.form):
        return False
    return all([is_place(app, rule, how, slot, state, place) for slot, place in zip(app.form, places)])


def is_place(app, rule, how, check, state, place):
    """Tell whether a value is what a reason names for one of the checks, which may be None."""
    if is_right_in(app, check, state):
        return place is None
    if check not in app.late_names or place not in states(app) or not is_right_in(app, check, place):
        return False
    return place_mark(app, rule, how, check, place) == place_mark(app, rule, how, check, state)
