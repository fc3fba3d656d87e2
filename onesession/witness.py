"""Witnesses: for each fault of the verdict a session whose last deed has it.

Each walk follows a reason. What arrives late lands only where a walk lets it land, so nothing
but the deeds of the walk itself changes the words, the editions and the pages.
"""

from onesession.conditions import call_in, has_unlike_calls, held_walk, is_of_rows, outcome_in, spots, told_apart
from onesession.standings import ACTS, EDITIONS, HELD, INPUTS, outcome
from onesession.verdict import why
from onesession.walks import Walk


def witness(app, rule, kind, name):
    """Return a list of deeds whose last one has a fault of the verdict."""
    found = why(app, rule, kind, name)
    walk = Walk(app, rule)
    if kind == "unsettled":
        stay_unsettled(walk, name, found)
    elif kind == "elder":
        call_elder(walk, name, found[1], found[2])
    elif kind == "barred":
        show_barred(walk, name, found)
    else:
        send_wrong(walk, name, found)
    return walk.told


def stay_unsettled(walk, slot, found):
    """Leave a late slot unsettled in a quiet standing."""
    head = found[0]
    if head == "late":
        take_elder_last(walk, slot, found[1], found[2], found[3])
    elif head == "return":
        leave_and_return(walk, slot, found)
    elif walk.rule.saves == "records":
        forget_act(walk, slot, found[1], found[3])
    else:
        keep_word(walk, slot, found[1], found[2], found[3])


def take_elder_last(walk, slot, page, elder, now):
    """Let an elder act of a slot arrive behind the newest one."""
    if page is not None:
        walk.come_to(page)
    walk.add_row_for(slot)
    # From the spot of now the elder call is another one, so it is begun, whatever has landed before.
    for spot in (now, elder, now):
        walk.move_to(spot)
    walk.land_last(walk.app.late_slots, slot, walk.call(slot, elder))


def leave_and_return(walk, slot, found):
    """Leave a page, let what was asked for there be dropped or cleared, and come back in the same spot."""
    _, page, other, spot, away, leaving = found
    walk.add_row_for(slot)
    if leaving is None:
        walk.come_to(other)
        drop_acts(walk, slot, spot, away)
        walk.move_to(spot)
        walk.step_on("go", page)
    else:
        ask_on_page(walk, slot, page, spot, away)
        walk.move_to(leaving)
    walk.step_on("go", other)
    drop_acts(walk, slot, spot, away)
    walk.move_to(spot)
    walk.step_on("go", page)
    walk.land_all(walk.app.late_slots)


def ask_on_page(walk, slot, page, spot, away):
    """Come to a page under turn "once" and stand in a spot with whose call the last act of a slot was begun."""
    walk.move_to(spot)
    if walk.shown() != page:
        walk.step_on("go", page)
    while walk.last_begun(slot) != walk.call(slot, spot):
        # Only under one "one" an elder act is in the way. What is made of it is cleared in the spot, or it is dropped.
        if walk.rule.keep == "keep":
            walk.move_to(dropping_spot(walk, slot, spot, away))
        walk.land_first(slot)


def drop_acts(walk, slot, spot, away):
    """Let all acts of a slot arrive where they leave no word that is there in a spot."""
    while walk.first_act((slot,)) is not None:
        walk.move_to(dropping_spot(walk, slot, spot, away))
        walk.land_first(slot)


def dropping_spot(walk, slot, spot, away):
    """Return the one of two spots in which the first act of a slot leaves no word that is there in the first spot."""
    call = walk.standing[ACTS][walk.first_act((slot,))][2]
    # What is not told apart from the call of the spot is told apart from that of the other one, or,
    # under keep "clear", the word that is made of it goes when the spot is come to.
    return spot if told_apart(walk.rule, call, walk.call(slot, spot)) else away


def forget_act(walk, slot, page, last):
    """Open a session again while an act is under way, which is recorded as begun."""
    walk.add_row_for(slot)
    # What is wanted everywhere, or on the first page, is under way already.
    left = walk.first_act((slot,)) is None
    if left:
        walk.move_to(last)
        walk.step_on("go", page)
    walk.step_on("reopen", walk.standing[EDITIONS])
    if left:
        walk.step_on("go", page)
    walk.land_all(walk.app.late_slots)


def keep_word(walk, slot, page, first, last):
    """Open a session again with a word of another spot, which is kept as if it were made of the call of now."""
    if page is not None:
        walk.come_to(page)
    walk.add_row_for(slot)
    walk.move_to(first)
    walk.land_all((slot,))
    walk.move_to(last)
    walk.step_on("reopen", last[1])
    if page is not None and walk.shown() != page:
        walk.step_on("go", page)
    walk.land_all(walk.app.late_slots)


def call_elder(walk, handler, first, second):
    """Call a handler as of an earlier moment, when it has another outcome."""
    _, _, page, _, _, _, when = walk.app.handler_named(handler)
    walk.come_to(page)
    if when == "later":
        # The page has just been shown, so the call that is put is that of the state of now.
        then = outcome_in(walk.app, handler, (walk.standing[INPUTS], walk.standing[EDITIONS]))
        walk.step_on("press", handler)
        unlike = first if outcome_in(walk.app, handler, first) != then else second
        walk.move(*unlike)
        walk.step_on("timer", 0)
        return
    walk.move(*first)
    if held_outcome(walk, handler) == outcome_in(walk.app, handler, first):
        for state in held_walk(walk.app, walk.rule, handler, first, second):
            walk.move(*state)
    walk.step_on("press", handler)


def held_outcome(walk, handler):
    """Return the word to which the call leads that is held for a handler of the page."""
    entries = {entry[0]: entry for entry in walk.standing[HELD]}
    _, edition, _, given = entries[handler]
    return outcome(walk.app, handler, (edition, given))


def show_barred(walk, page, found):
    """Be under way to a page until its guard does not let, and come to it then."""
    _, other, letting, shut = found
    needs = walk.app.page_named(page)[1]
    if other is not None:
        walk.come_to(other)
        clear_need(walk, needs, letting)
    walk.move(*letting)
    for slot in needs:
        walk.add_row_for(slot)
    walk.step_on("go", page)
    walk.move(*shut)
    walk.load(page)


def clear_need(walk, needs, letting):
    """Move away from a state so that under keep "clear" a word that is needed is not there in it."""
    late = [slot for slot in needs if not is_of_rows(walk.app, slot) and has_unlike_calls(walk.app, slot)]
    if walk.rule.keep == "clear" and late != []:
        own = call_in(walk.app, late[0], letting + (None,))
        away = [spot for spot in spots(walk.app, late[0]) if walk.call(late[0], spot) != own]
        walk.move_to(away[0])


def send_wrong(walk, check, found):
    """Send the form while the due word of a check is not the right one."""
    _, how, state, places = found
    if how == "late":
        take_right_last(walk, state, places)
    elif how == "saved":
        keep_right(walk, state, places)
    else:
        walk.move(*state)
    walk.step_on("send")


def take_right_last(walk, state, places):
    """Let an elder act with the right word arrive last for each check that is not right."""
    placed = [(check, place) for check, place in zip(walk.app.form, places) if check in walk.app.late_names]
    for check, place in placed:
        if place is not None:
            walk.move(*place)
    walk.move(*state)
    for check, place in placed:
        there = state if place is None else place
        walk.land_last((check,), check, walk.call(check, there + (None,)))


def keep_right(walk, state, places):
    """Open a session again with the right words of other states."""
    for check, place in zip(walk.app.form, places):
        if check in walk.app.late_names:
            there = state if place is None else place
            walk.move(*there)
            walk.land_all((check,))
    walk.move(*state)
    # Where one act at a time is begun, the first time lets go of an elder one, and the second time of the last one.
    walk.step_on("reopen", state[1])
    walk.step_on("reopen", state[1])
