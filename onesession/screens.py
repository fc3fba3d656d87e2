"""What the person sees."""

from onesession.standings import EDITIONS, INPUTS, PAGE, RECORDS, ROWS, WAY, dues_there, instances


def screen(app, rule, standing):
    """Return the screen of a standing."""
    return with_words(app, rule, standing, [record[0] for record in standing[RECORDS]])


def due_screen(app, rule, standing):
    """Return the screen that a standing would have if all words were the due ones."""
    return with_words(app, rule, standing, dues_there(app, standing[INPUTS], standing[EDITIONS], standing[ROWS]))


def with_words(app, rule, standing, words):
    """Return the screen of a standing, where the words of all instances that are there are passed."""
    there = instances(app, rule, standing)
    needs = app.page_named(standing[PAGE])[1]
    shown = tuple([(slot, tuple([word for instance, word in zip(there, words) if instance[0] == slot]))
                   for slot in needs])
    return (standing[PAGE], standing[WAY], standing[INPUTS], standing[ROWS], shown)
