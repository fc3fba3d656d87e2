"""Settling: what happens by itself behind the beginning and behind a deed."""

from onesession.basics import replaced
from onesession.standings import calls_there, instances_there, wanted_slots


def settle(work):
    """Settle a standing in its four stages."""
    settle_records(work)
    settle_way(work)
    if work.rule.holds == "listed":
        settle_held(work)
    if work.waiting and not is_checking(work):
        work.waiting = False
        send_checked(work)


def settle_records(work):
    """Clear what has become old, and begin what is to be asked for."""
    there = instances_there(work.app, work.rule, work.rows)
    calls = calls_there(work.app, work.inputs, work.editions, work.rows)
    slots = wanted_slots(work.app, work.rule, work.page, work.way)
    for at, (instance, call) in enumerate(zip(there, calls)):
        if work.rule.keep == "clear":
            clear_old(work, at, call)
        if instance[0] in slots and is_to_begin(work, instance, work.records[at], call):
            begin_act(work, at, instance, call)


def clear_old(work, at, call):
    """Clear the record at a position if its word was made from another call than that of now."""
    _, last, made = work.records[at]
    if made is not None and made != call:
        work.records = replaced(work.records, at, (None, last, None))


def is_to_begin(work, instance, record, call):
    """Tell whether the rule begins an act of a wanted instance, whose call of now is passed."""
    _, last, made = record
    begun = [act[2] for act in work.acts if act[:2] == instance]
    if work.rule.again == "change" and last == call:
        return False
    if work.rule.again == "match" and (made == call or call in begun):
        return False
    return work.rule.one == "many" or begun == []


def begin_act(work, at, instance, call):
    """Begin an act of an instance, which is the newest one of its acts."""
    word, _, made = work.records[at]
    work.records = replaced(work.records, at, (word, call, made))
    elder = [act[:3] + (False,) if act[:2] == instance else act for act in work.acts]
    work.acts = tuple(elder) + (instance + (call, True),)
    work.tell("begun", *instance)


def settle_way(work):
    """Come to the page that is under way if all that it needs is there."""
    page = work.way
    if page is None or is_missing(work, page):
        return
    work.way = None
    if work.rule.guard == "land" and not work.moment()["letting"][page]:
        work.tell("refused", page)
    else:
        work.show(page)


def is_missing(work, page):
    """Tell whether a need of a page has an instance without a word."""
    needs = work.app.page_named(page)[1]
    there = instances_there(work.app, work.rule, work.rows)
    return any([record[0] is None for instance, record in zip(there, work.records) if instance[0] in needs])


def settle_held(work):
    """Renew the entries of the page's handlers that are not kept."""
    moment = work.moment()
    entries = {entry[0]: entry for entry in work.held}
    held = []
    for handler, module, page, _, _, _, _ in work.app.handlers:
        if page == work.page:
            edition = work.editions[work.app.module_names.index(module)]
            entry = entries.get(handler)
            if entry is None or not is_kept(work, entry, moment["listed"][handler], edition):
                call = moment["handler calls"][handler]
                entry = (handler, call[0], moment["listed"][handler], call[1])
                work.tell("renewed", handler)
            held.append(entry)
    work.held = tuple(held)


def is_kept(work, entry, listed, edition):
    """Tell whether an entry is kept where the listed words and the edition of now are these."""
    if entry[2] != listed:
        return False
    return work.rule.swap == "keep" or entry[1] == edition


def is_checking(work):
    """Tell whether there is an act of a check of the form."""
    return any([act[0] in work.app.form for act in work.acts])


def send_checked(work):
    """Send the form if all its checks are right, and hold it back otherwise."""
    if all([is_right(work, check) for check in work.app.form]):
        work.tell("sent")
    else:
        work.tell("unsent")


def is_right(work, check):
    """Tell whether a check has the right word."""
    if check in work.app.made_names:
        return dict(work.moment()["given"])[check] == work.app.right
    return work.records[work.app.late_names.index(check)][0] == work.app.right
