"""[21] and [22]: batches, undo, redo and forks."""

import unittest

from onesession.errors import BatchRefused, NothingToRedo, NothingToUndo
from onesession.live import Live
from onesession.rules import Rule
from onesession.running import Step, begin, step
from tests.samples import STRANGE, copied, full_app, interface_app, random_app, random_deed, random_rule, sources

DEEDS = (("set", "x", "no"), ("land", 1), ("land", 5), ("go", "view"), ("land", 0))


def shown(last):
    """What a Step has."""
    return (last.standing, last.events)


def kept_of(live):
    """What a live session tells of itself, to see later whether it has changed."""
    return copied((live.standing, shown(live.last), live.done, live.undone, len(live), live.seen_faults()))


def steps_of(app, rule, standing, deeds):
    """The Steps of some deeds, done in order from a standing."""
    found = []
    for deed in deeds:
        found.append(step(app, rule, standing, deed))
        standing = found[-1].standing
    return found


class BatchTest(unittest.TestCase):
    def test_a_batch_is_done_in_order(self):
        for kind in (tuple, list):
            app, rule = interface_app(), Rule()
            live = same = Live(app, rule)
            live += kind(DEEDS)
            self.assertIs(live, same)
            expected = steps_of(app, rule, begin(app, rule).standing, DEEDS)
            self.assertEqual(shown(live.last), shown(expected[-1]))
            self.assertEqual((live.done, live.undone, len(live)), (DEEDS, (), 5))
            for number in range(5, 1, -1):
                self.assertEqual(live.undo(), DEEDS[number - 1])
                self.assertEqual(shown(live.last), shown(expected[number - 2]))

    def test_trial(self):
        for kind in (tuple, list):
            app, rule = interface_app(), Rule()
            live = Live(app, rule)
            live.do(("edit", "m", 1))
            live.do(("edit", "m", 0))
            live.undo()
            kept = kept_of(live)
            told = live.trial(kind(DEEDS))
            self.assertIs(type(told), tuple)
            expected = steps_of(app, rule, live.standing, DEEDS)
            self.assertEqual([shown(last) for last in told], [shown(last) for last in expected])
            self.assertTrue(all(isinstance(last, Step) for last in told))
            self.assertEqual(kept_of(live), kept)
            self.assertEqual(live.undone, (("edit", "m", 0),))

    def test_a_wrong_item(self):
        live = Live(full_app(), Rule())
        live += DEEDS
        live.undo()
        kept = kept_of(live)
        for value in [*STRANGE, ["set", "x", "no"], ("set", "x"), ("land", -1), ("land", True), ("go", "d")]:
            for at in (0, 2, len(DEEDS)):
                for kind in (tuple, list):
                    batch = kind(DEEDS[:at] + (value,) + DEEDS[at:])
                    before = copied(batch)
                    with self.assertRaises(BatchRefused) as caught:
                        live.trial(batch)
                    self.assertEqual(caught.exception.index, at)
                    with self.assertRaises(BatchRefused) as caught:
                        live += batch
                    self.assertEqual(caught.exception.index, at)
                    self.assertEqual(batch, before)
                    self.assertEqual(kept_of(live), kept)

    def test_the_first_of_several_wrong_items(self):
        live = Live(interface_app(), Rule())
        with self.assertRaises(BatchRefused) as caught:
            live += [("land", 0), None, ("land", 0), []]
        self.assertEqual(caught.exception.index, 1)
        with self.assertRaises(BatchRefused) as caught:
            live.trial(((), ("land", 0), None))
        self.assertEqual(caught.exception.index, 0)

    def test_deeds_of_another_app(self):
        live = Live(interface_app(), Rule())
        with self.assertRaises(BatchRefused) as caught:
            live += (("send",),)
        self.assertEqual(caught.exception.index, 0)

    def test_a_batch_of_no_deeds_changes_nothing(self):
        live = same = Live(interface_app(), Rule())
        live.do(("set", "x", "no"))
        live.undo()
        kept = kept_of(live)
        for batch in ((), []):
            self.assertEqual(live.trial(batch), ())
            live += batch
            self.assertIs(live, same)
            self.assertEqual(kept_of(live), kept)
        live.redo()

    def test_a_batch_empties_undone(self):
        live = Live(interface_app(), Rule())
        live.do(("set", "x", "no"))
        live.undo()
        live += [("land", 8)]
        self.assertEqual((live.undone, live.done), ((), (("land", 8),)))
        with self.assertRaises(NothingToRedo):
            live.redo()

    def test_a_list_that_was_passed_may_be_changed(self):
        live = Live(interface_app(), Rule())
        batch = list(DEEDS)
        told = live.trial(batch)
        live += batch
        kept = kept_of(live)
        batch[0] = None
        batch.clear()
        self.assertEqual(kept_of(live), kept)
        self.assertEqual(len(told), 5)
        for _ in DEEDS:
            live.undo()
        for _ in DEEDS:
            live.redo()
        self.assertEqual(kept_of(live), kept)

    def test_a_batch_of_its_own_deeds(self):
        live = Live(interface_app(), Rule())
        live += DEEDS
        live += live.done
        self.assertEqual(live.done, DEEDS * 2)


class UndoTest(unittest.TestCase):
    def test_both_ends(self):
        app, rule = interface_app(), Rule()
        live = Live(app, rule)
        with self.assertRaises(NothingToUndo):
            live.undo()
        with self.assertRaises(NothingToRedo):
            live.redo()
        kept = [kept_of(live)]
        for deed in DEEDS:
            live.do(deed)
            kept.append(kept_of(live))
        for number in range(len(DEEDS) - 1, -1, -1):
            self.assertEqual(live.undo(), DEEDS[number])
            self.assertEqual((live.done, live.undone), (DEEDS[:number], DEEDS[number:]))
            self.assertEqual((live.standing, shown(live.last)), kept[number][:2])
        with self.assertRaises(NothingToUndo):
            live.undo()
        self.assertEqual((live.done, live.undone, shown(live.last)), ((), DEEDS, shown(begin(app, rule))))
        for number in range(1, len(DEEDS) + 1):
            told = live.redo()
            self.assertEqual(shown(told), shown(live.last))
            self.assertEqual((live.done, live.undone), (DEEDS[:number], DEEDS[number:]))
            self.assertEqual((live.standing, shown(live.last)), kept[number][:2])
        with self.assertRaises(NothingToRedo):
            live.redo()
        self.assertEqual(kept_of(live), kept[-1])

    def test_what_empties_undone(self):
        turns = [
            lambda live: live.do(("land", 9)), lambda live: live.land(0), lambda live: live.go("home"),
            lambda live: live.edit("m", 0), lambda live: live.reopen((0,)), lambda live: live.fire_timer(0),
            lambda live: live.__setitem__("x", "yes"), lambda live: live.__iadd__([("land", 0)]),
        ]
        for turn in turns:
            live = Live(interface_app(), Rule())
            live += DEEDS
            live.undo()
            live.undo()
            turn(live)
            self.assertEqual(live.undone, ())
            self.assertEqual(len(live), 4)
            with self.assertRaises(NothingToRedo):
                live.redo()

    def test_what_does_not_empty_undone(self):
        live = Live(interface_app(), Rule())
        live += DEEDS
        live.undo()
        live.undo()
        undone = live.undone
        asked = [
            live.faults, live.seen_faults, live.screen, live.fork, lambda: live.trial(DEEDS), lambda: len(live),
            lambda: live["x"], lambda: "x" in live,
        ]
        for ask in asked:
            ask()
            self.assertEqual(live.undone, undone)
        for wrong in (lambda: live.do(None), lambda: live.trial([None]), lambda: live["zzz"], lambda: live.go("zzz"),
                      lambda: live.__setitem__("d", "yes"), lambda: live.__iadd__([None])):
            with self.assertRaises(ValueError):
                wrong()
            self.assertEqual(live.undone, undone)
        live.redo()
        self.assertEqual(live.undone, undone[1:])

    def test_in_a_given_standing(self):
        app, rule = interface_app(), Rule()
        given = begin(app, rule).standing
        live = Live(app, rule, standing=given)
        live.do(("set", "x", "no"))
        live.undo()
        self.assertEqual(shown(live.last), (given, ()))
        with self.assertRaises(NothingToUndo):
            live.undo()


class ForkTest(unittest.TestCase):
    def test_a_fork_stands_where_the_first_one_stands(self):
        live = Live(interface_app(), Rule(words=False))
        live += DEEDS
        live.undo()
        other = live.fork()
        self.assertIsInstance(other, Live)
        self.assertIsNot(other, live)
        self.assertEqual((other.app, other.rule), (live.app, live.rule))
        self.assertEqual(kept_of(other), kept_of(live))

    def test_neither_changes_the_other(self):
        live = Live(interface_app(), Rule())
        live += DEEDS
        live.undo()
        other = live.fork()
        kept = kept_of(live)
        other.redo()
        other.do(("set", "x", "yes"))
        self.assertEqual(kept_of(live), kept)
        kept = kept_of(other)
        live.undo()
        live += [("edit", "m", 1)]
        self.assertEqual(kept_of(other), kept)

    def test_a_fork_can_undo_and_redo_all(self):
        live = Live(interface_app(), Rule())
        live += DEEDS
        for _ in range(2):
            live.undo()
        other = live.fork()
        for _ in range(2):
            self.assertEqual(shown(other.redo()), shown(live.redo()))
        for _ in DEEDS:
            self.assertEqual(other.undo(), live.undo())
            self.assertEqual(kept_of(other), kept_of(live))
        with self.assertRaises(NothingToUndo):
            other.undo()

    def test_a_fork_of_a_given_standing(self):
        app, rule = interface_app(), Rule()
        live = Live(app, rule, standing=begin(app, rule).standing)
        self.assertEqual(shown(live.fork().last), shown(live.last))


class Shadow:
    """A live session as lists of deeds, from which every Step is worked out anew."""

    def __init__(self, live):
        self.app, self.rule, self.start = live.app, live.rule, live.last
        self.done, self.undone = [], []

    def fork(self):
        other = Shadow.__new__(Shadow)
        other.app, other.rule, other.start = self.app, self.rule, self.start
        other.done, other.undone = list(self.done), list(self.undone)
        return other

    def last(self):
        return ([self.start] + steps_of(self.app, self.rule, self.start.standing, self.done))[-1]


class FactsTest(unittest.TestCase):
    def assert_alike(self, live, shadow):
        self.assertEqual((live.done, live.undone), (tuple(shadow.done), tuple(shadow.undone)))
        self.assertEqual(shown(live.last), shown(shadow.last()))
        self.assertEqual(live.standing, live.last.standing)
        self.assertEqual(len(live), len(shadow.done))

    def turn(self, source, live, shadow):
        """Do something with both of them."""
        kind = source.choice(("do", "do", "batch", "undo", "undo", "redo", "trial", "wrong"))
        if kind == "do":
            deed = random_deed(source, live.app, live.standing)
            live.do(deed)
            shadow.done, shadow.undone = shadow.done + [deed], []
        if kind in ("batch", "trial"):
            batch = [random_deed(source, live.app, live.standing) for _ in range(source.randint(1, 4))]
            if kind == "trial":
                live.trial(batch)
            else:
                live += batch
                shadow.done, shadow.undone = shadow.done + batch, []
        if kind == "wrong":
            with self.assertRaises(BatchRefused):
                live += [random_deed(source, live.app, live.standing), None]
        if kind == "undo" and shadow.done:
            self.assertEqual(live.undo(), shadow.done[-1])
            shadow.done, shadow.undone = shadow.done[:-1], shadow.done[-1:] + shadow.undone
        if kind == "redo" and shadow.undone:
            live.redo()
            shadow.done, shadow.undone = shadow.done + shadow.undone[:1], shadow.undone[1:]

    def test_long_histories(self):
        for source in sources(60):
            live = Live(random_app(source), random_rule(source))
            rows = [(live, Shadow(live))]
            for _ in range(60):
                at = source.randrange(len(rows))
                self.turn(source, *rows[at])
                if source.random() < 0.05:
                    rows.append((rows[at][0].fork(), rows[at][1].fork()))
                for pair in rows if source.random() < 0.2 else rows[at:at + 1]:
                    self.assert_alike(*pair)

    def test_undo_and_redo_lead_back(self):
        for source in sources(60, start=500):
            live = Live(random_app(source), random_rule(source))
            for _ in range(30):
                live.do(random_deed(source, live.app, live.standing))
                for _ in range(source.randrange(3)):
                    kept, last = kept_of(live), live.last
                    live.undo()
                    live.redo()
                    self.assertEqual(kept_of(live), kept)
                    self.assertIs(live.last, last)
                    live.undo()
                    if not live.done:
                        break
                if live.undone:
                    kept = kept_of(live)
                    live.redo()
                    live.undo()
                    self.assertEqual(kept_of(live), kept)

    def test_a_session_that_begins_in_a_standing_of_another(self):
        for source in sources(60, start=900):
            app, rule = random_app(source), random_rule(source)
            live = Live(app, rule)
            for _ in range(10):
                live.do(random_deed(source, app, live.standing))
            other = Live(app, rule, standing=live.standing)
            for _ in range(10):
                deed = random_deed(source, app, live.standing)
                self.assertEqual(shown(other.do(deed)), shown(live.do(deed)))

    def test_a_long_session(self):
        live = Live(interface_app(), Rule())
        live += [("set", "x", word) for word in ("no", "yes") * 1000]
        self.assertEqual(len(live), 2000)
        live += [("land", 0)] * 2001
        self.assertEqual(live.standing[6], ())
        for _ in range(4001):
            live.undo()
        self.assertEqual(shown(live.last), shown(begin(live.app, live.rule)))


if __name__ == "__main__":
    unittest.main()
