"""The smallest repairs of an app and a rule: flags to compare, parts to turn, and changes."""

from onesession.changes import parts_with, with_change
from onesession.errors import InvalidApp, InvalidChange, InvalidKind, InvalidParts, InvalidRule
from onesession.judging import KINDS
from onesession.rules import PARTS
from onesession.verdict import sound, verdict

FLAGS = ("words", "code", "newest")
MOST_CANDIDATES = 6


def least_compared(app, rule):
    """Return the list of the least sets of flags that are enough."""
    sets = sets_of(FLAGS, 0) + sets_of(FLAGS, 1) + sets_of(FLAGS, 2) + sets_of(FLAGS, 3)
    least = []
    for flags in sets:
        smaller = [other for other in least if all([flag in flags for flag in other])]
        if smaller == [] and is_enough(app, rule, flags):
            least.append(flags)
    return least


def sets_of(items, many):
    """Return the list of all tuples of so many of the items, in the order of their positions."""
    found = [()]
    for _ in range(many):
        found = [chosen + (item,) for chosen in found for item in behind(items, chosen)]
    return found


def behind(items, chosen):
    """Return the items that stand behind the last one that has been chosen."""
    return items if chosen == () else items[items.index(chosen[-1]) + 1:]


def is_enough(app, rule, flags):
    """Tell whether the verdict is empty if exactly these flags are True."""
    for flag in FLAGS:
        rule = rule.turned(flag, flag in flags)
    return sound(app, rule)


def least_turned(app, rule, parts):
    """Return the list of the ways to turn the fewest of some parts that make a rule sound."""
    names = [part for part, _ in PARTS]
    for at, part in enumerate(parts):
        if part not in names or part in parts[:at]:
            raise InvalidParts(at)
    pairs = tuple([(part, value) for (part, values), now in zip(PARTS, rule.choice) if part in parts
                   for value in values if value != now])
    for many in (0, 1, 2):
        ways = [way for way in sets_of(pairs, many) if turns_each_once(way) and is_sound_with(app, rule, way)]
        if ways != []:
            return ways
    return []


def turns_each_once(way):
    """Tell whether no part stands twice in a way to turn parts."""
    parts = [part for part, _ in way]
    return all([parts.count(part) == 1 for part in parts])


def is_sound_with(app, rule, way):
    """Tell whether the rule that is turned in a way is sound."""
    for part, value in way:
        rule = rule.turned(part, value)
    return sound(app, rule)


def is_change(app, rule, item):
    """Tell whether a value is a change of an app and a rule."""
    if not isinstance(item, tuple) or len(item) != 3:
        return False
    if item[0] != "rule" and parts_with(app, *item) is None:
        return False
    try:
        with_change(app, rule, item)
    except (InvalidApp, InvalidRule):
        return False
    return True


def aim_of(change):
    """Return the aim of a change."""
    return change[:2]


def have_one_aim(changes):
    """Tell whether two of the changes have the same aim."""
    aims = [aim_of(change) for change in changes]
    return any([aims.count(aim) > 1 for aim in aims])


def with_changes(app, rule, changes):
    """Return the pair of the app and the rule with all the changes."""
    for at, item in enumerate(changes):
        if not is_change(app, rule, item) or have_one_aim(changes[:at + 1]):
            raise InvalidChange(at)
    return with_all(app, rule, changes)


def with_all(app, rule, changes):
    """Return the pair of the app and the rule with changes that have different aims."""
    for change in changes:
        app, rule = with_change(app, rule, change)
    return (app, rule)


def heals(app, rule, kind, candidates):
    """Return the list of all sets of the fewest candidates that heal a kind of fault."""
    if kind not in KINDS:
        raise InvalidKind(kind)
    for at, item in enumerate(candidates):
        if at >= MOST_CANDIDATES or not is_change(app, rule, item) or item in candidates[:at]:
            raise InvalidChange(at)
    elder = verdict(app, rule)
    for many in (0, 1, 2):
        healing = [changes for changes in sets_of(tuple(candidates), many) if do_heal(app, rule, kind, changes, elder)]
        if healing != []:
            return healing
    return []


def do_heal(app, rule, kind, changes, elder):
    """Tell whether changes heal a kind of fault, where the verdict without them is passed."""
    if have_one_aim(changes):
        return False
    healed_app, healed_rule = with_all(app, rule, changes)
    found = verdict(healed_app, healed_rule)
    return all([fault[0] != kind and fault in elder for fault in found])
