"""[58] and [59]: the desk, and what it tells."""

import unittest

from onesession.apps import App
from onesession.desk import Desk
from onesession.errors import BadDeed, InvalidKind, InvalidRule, InvalidText, NothingToRedo, NothingToUndo
from onesession.journal import play
from onesession.judging import KINDS, faults
from onesession.rules import PARTS, Rule
from onesession.texts import write_app, write_rule, write_session
from onesession.verdict import verdict
from onesession.witness import witness
from tests.samples import LARGE, STRANGE, X, YN, copied, full_app, interface_app, random_app, random_rule, sources
from tests.test_conditions import handler_app, one_late, small_app
from tests.test_counting import drawn_session

NO_KINDS = (*STRANGE, *LARGE, "unsettle", "apart", ("sent",), ["sent"], {"sent": 1}, "Sent")
NO_PARTS = (*STRANGE, *LARGE, "part", "Again", ("again",), ["again"], "change", 3)


def state_of(desk):
    """All that a desk tells of itself: app, rule, watched kinds, and what can be taken back and made again."""
    back, again = [], []

    def walk(inner):
        while len(inner):
            inner.undo()
            back.append((inner.app, inner.rule))
        for _ in back:
            inner.redo()
        while True:
            try:
                inner.redo()
            except NothingToRedo:
                return
            again.append((inner.app, inner.rule))

    count = len(desk)
    desk.trying(walk)
    return [write_app(desk.app), desk.rule.choice, desk.watched, count, len(desk), [kind in desk for kind in KINDS],
            [(write_app(app), rule.choice) for app, rule in back], [(write_app(app), rule.choice) for app, rule in again]]


class EditTest(unittest.TestCase):
    def test_a_new_desk(self):
        app, rule = interface_app(), Rule(keep="clear")
        desk = Desk(app, rule)
        self.assertIs(desk.app, app)
        self.assertIs(desk.rule, rule)
        self.assertEqual((desk.watched, len(desk)), ((), 0))
        self.assertEqual(state_of(desk)[6:], [[], []])

    def test_each_way_to_replace(self):
        first, second, rule, other = interface_app(), full_app(), Rule(), Rule(one="one")
        ways = (
            (lambda desk: setattr(desk, "app", second), second, rule), (lambda desk: setattr(desk, "rule", other), first, other),
            (lambda desk: self.assertIsNone(desk.put_app(second)), second, rule),
            (lambda desk: self.assertIsNone(desk.put_rule(other)), first, other),
            (lambda desk: desk.__setitem__("one", "one"), first, other),
        )
        for edit, app, now in ways:
            desk = Desk(first, rule)
            edit(desk)
            self.assertTrue(desk.app == app and desk.rule == now)
            self.assertEqual(len(desk), 1)
            edit(desk)
            self.assertEqual(len(desk), 2)
            self.assertIsNone(desk.undo())
            self.assertTrue(desk.app == app and desk.rule == now)
            desk.undo()
            self.assertTrue(desk.app == first and desk.rule == rule)
            self.assertEqual(len(desk), 0)
            self.assertIsNone(desk.redo())
            self.assertTrue(desk.app == app and desk.rule == now)

    def test_equal_ones_are_edits_too(self):
        desk = Desk(interface_app(), Rule())
        desk.app = interface_app()
        desk.rule = Rule()
        desk["one"] = "many"
        desk.put_app(desk.app)
        desk.put_rule(desk.rule)
        self.assertEqual(len(desk), 5)
        self.assertTrue(desk.app == interface_app() and desk.rule == Rule())

    def test_the_parts_of_the_rule(self):
        for source in sources(30):
            rule = random_rule(source)
            desk = Desk(interface_app(), rule)
            for (part, values), now in zip(PARTS, rule.choice):
                self.assertIs(desk[part], now)
                for value in values:
                    desk[part] = value
                    self.assertIs(desk[part], value)
                    self.assertEqual(desk.rule, rule.turned(part, value))
                desk.rule = rule
            self.assertEqual(len(desk), sum(len(values) + 1 for _, values in PARTS))

    def test_wrong_parts_and_values(self):
        desk = Desk(interface_app(), Rule())
        desk["one"] = "one"
        desk["key"] = "place"
        desk.undo()
        kept = state_of(desk)
        for value in NO_PARTS:
            with self.assertRaises(InvalidRule) as caught:
                desk[value]
            self.assertIs(caught.exception.part, value)
            with self.assertRaises(InvalidRule) as caught:
                desk[value] = "one"
            self.assertIs(caught.exception.part, value)
            with self.assertRaises(InvalidRule) as caught:
                desk.best(value)
            self.assertIs(caught.exception.part, value)
        for part, values in PARTS:
            for value in (*STRANGE, *LARGE, 0, 1, "zzz", [values[0]], (values[0],)):
                if not (value in values and isinstance(value, (str, bool))):
                    with self.assertRaises(InvalidRule) as caught:
                        desk[part] = value
                    self.assertEqual(caught.exception.part, part)
        self.assertEqual(state_of(desk), kept)

    def test_undo_and_redo_up_to_both_ends(self):
        desk = Desk(interface_app(), Rule())
        with self.assertRaises(NothingToUndo):
            desk.undo()
        with self.assertRaises(NothingToRedo):
            desk.redo()
        desk["one"] = "one"
        desk.app = full_app()
        desk["key"] = "place"
        for length in (2, 1, 0):
            desk.undo()
            self.assertEqual(len(desk), length)
        with self.assertRaises(NothingToUndo):
            desk.undo()
        self.assertTrue(desk.app == interface_app() and desk.rule == Rule())
        for length in (1, 2, 3):
            desk.redo()
            self.assertEqual(len(desk), length)
        with self.assertRaises(NothingToRedo):
            desk.redo()
        self.assertTrue(desk.app == full_app() and desk.rule == Rule(one="one", key="place"))

    def test_a_new_edit_empties_what_can_be_made_again(self):
        for edit in (lambda desk: desk.put_rule(Rule()), lambda desk: desk.put_app(full_app()), lambda desk: desk.__setitem__("key", "id"),
                     lambda desk: setattr(desk, "app", desk.app), lambda desk: setattr(desk, "rule", desk.rule)):
            desk = Desk(interface_app(), Rule())
            desk["one"] = "one"
            desk["key"] = "place"
            desk.undo()
            edit(desk)
            self.assertEqual(len(desk), 2)
            with self.assertRaises(NothingToRedo):
                desk.redo()
            desk.undo()
            self.assertEqual(desk.rule, Rule(one="one"))

    def test_a_second_history(self):
        for source in sources(60):
            desk = Desk(interface_app(), Rule())
            row, at = [(interface_app(), Rule())], 0
            for _ in range(40):
                draw = source.random()
                if draw < 0.35 and at > 0:
                    desk.undo()
                    at -= 1
                elif draw < 0.6 and at + 1 < len(row):
                    desk.redo()
                    at += 1
                elif draw < 0.8:
                    part, values = source.choice(PARTS)
                    value = source.choice(values)
                    desk[part] = value
                    row = row[:at + 1] + [(row[at][0], row[at][1].turned(part, value))]
                    at += 1
                else:
                    app = source.choice((interface_app, full_app))()
                    desk.app = app
                    row = row[:at + 1] + [(app, row[at][1])]
                    at += 1
                self.assertTrue(desk.app == row[at][0] and desk.rule == row[at][1])
                self.assertEqual(len(desk), at)

    def test_a_desk_is_not_iterated_over(self):
        with self.assertRaises(TypeError):
            list(Desk(interface_app(), Rule()))


class WatchingTest(unittest.TestCase):
    def test_each_kind(self):
        desk = same = Desk(interface_app(), Rule())
        desk["one"] = "one"
        desk.undo()
        for kind in reversed(KINDS):
            for _ in range(2):
                desk |= kind
                self.assertIs(desk, same)
                self.assertIs(kind in desk, True)
        self.assertEqual(desk.watched, KINDS)
        for kind in ("barred", "unsettled"):
            for _ in range(2):
                desk -= kind
                self.assertIs(desk, same)
                self.assertIs(kind in desk, False)
        self.assertEqual(desk.watched, ("elder", "sent"))
        desk |= "unsettled"
        self.assertEqual(desk.watched, ("unsettled", "elder", "sent"))
        # Watching is no edit.
        self.assertEqual(len(desk), 0)
        desk.redo()
        self.assertEqual((desk.watched, desk["one"]), (("unsettled", "elder", "sent"), "one"))
        desk.undo()
        self.assertEqual(desk.watched, ("unsettled", "elder", "sent"))

    def test_other_values(self):
        desk = Desk(interface_app(), Rule())
        desk |= "barred"
        for value in NO_KINDS:
            self.assertIs(value in desk, False)
            with self.assertRaises(InvalidKind) as caught:
                desk |= value
            self.assertIs(caught.exception.kind, value)
            with self.assertRaises(InvalidKind) as caught:
                desk -= value
            self.assertIs(caught.exception.kind, value)
        self.assertEqual(desk.watched, ("barred",))


class Stop(Exception):
    """What a function raises that is tried."""


class TryingTest(unittest.TestCase):
    def desk(self):
        """A desk with edits on both sides, and some watched kinds."""
        desk = Desk(interface_app(), Rule())
        desk["one"] = "one"
        desk.app = full_app()
        desk["key"] = "place"
        desk["ask"] = "needed"
        desk.undo()
        desk.undo()
        desk |= "sent"
        desk |= "elder"
        return desk

    def edit(self, desk):
        desk["words"] = False
        desk.app = one_late()
        return desk.rule

    def undo(self, desk):
        desk.undo()
        desk.undo()

    def redo(self, desk):
        desk.redo()
        desk.redo()

    def watch(self, desk):
        desk |= "barred"
        desk -= "sent"

    def test_the_desk_is_as_before(self):
        def inner(desk):
            desk["words"] = False
            before = state_of(desk)
            self.assertEqual(desk.trying(self.edit), Rule(one="one", words=False))
            self.assertEqual(state_of(desk), before)
            self.watch(desk)
            return "done"

        for deed in (self.edit, self.undo, self.redo, self.watch, inner, lambda desk: None, lambda desk: desk.verdict()):
            desk = self.desk()
            app, rule, before = desk.app, desk.rule, state_of(desk)
            desk.trying(deed)
            self.assertEqual(state_of(desk), before)
            self.assertIs(desk.app, app)
            self.assertIs(desk.rule, rule)
            desk.redo()
            desk.redo()
            self.assertEqual(desk.rule, Rule(one="one", key="place", ask="needed"))
            with self.assertRaises(NothingToRedo):
                desk.redo()

    def test_what_it_returns(self):
        desk = self.desk()
        self.assertIs(desk.trying(lambda inner: inner), desk)
        self.assertEqual(desk.trying(self.edit), Rule(one="one", words=False))
        self.assertEqual(desk.trying(lambda inner: [1, None]), [1, None])
        self.assertIsNone(desk.trying(self.watch))
        found = []
        self.assertIsNone(desk.trying(found.append))
        self.assertIs(found[0], desk)

    def test_what_it_raises(self):
        def all_of_it(desk):
            self.edit(desk)
            self.watch(desk)
            desk.undo()
            desk.undo()
            raise Stop("here")

        def too_far(desk):
            self.watch(desk)
            while True:
                desk.undo()

        def twice(desk):
            self.edit(desk)
            desk.trying(all_of_it)

        for deed, error in ((all_of_it, Stop), (too_far, NothingToUndo), (twice, Stop), (lambda desk: desk["zzz"], InvalidRule),
                            (lambda desk: desk.trying(too_far), NothingToUndo)):
            desk = self.desk()
            before = state_of(desk)
            with self.assertRaises(error):
                desk.trying(deed)
            self.assertEqual(state_of(desk), before)
        raised = Stop("this one")

        def raises(desk):
            raise raised

        with self.assertRaises(Stop) as caught:
            self.desk().trying(raises)
        self.assertIs(caught.exception, raised)


class TellingTest(unittest.TestCase):
    def watching(self, desk, kinds):
        for kind in kinds:
            desk |= kind
        return desk

    def each(self, count):
        """Apps, rules and watched kinds: none, some and all."""
        for source in sources(count):
            app = source.choice((small_app, random_app))(source)
            for kinds in ((), source.sample(KINDS, source.randint(1, 3)), KINDS):
                yield source, app, random_rule(source), kinds

    def test_verdict(self):
        for _, app, rule, kinds in self.each(80):
            desk = self.watching(Desk(app, rule), kinds)
            told = desk.verdict()
            self.assertIs(type(told), list)
            self.assertEqual(told, [fault for fault in verdict(app, rule) if fault[0] in kinds])
            told.append(None)
            self.assertEqual(desk.verdict(), [fault for fault in verdict(app, rule) if fault[0] in kinds])

    def test_best(self):
        one = several = 0
        for _, app, rule, kinds in self.each(80):
            desk = self.watching(Desk(app, rule), kinds)
            before = state_of(desk)
            for part, values in PARTS:
                sizes = [len([fault for fault in verdict(app, rule.turned(part, value)) if fault[0] in kinds]) for value in values]
                told = desk.best(part)
                self.assertIs(type(told), tuple)
                self.assertEqual(told, tuple(value for value, size in zip(values, sizes) if size == min(sizes)))
                one += len(told) == 1
                several += len(told) > 1
            self.assertEqual(state_of(desk), before)
        self.assertGreater(min(one, several), 50)

    def test_best_by_hand(self):
        desk = self.watching(Desk(interface_app(), Rule(words=False)), KINDS)
        self.assertEqual((desk.best("words"), desk.best("saves"), desk.best("again")), ((True,), ("nothing", "records", "values"), ("match",)))
        desk -= "unsettled"
        self.assertEqual(desk.best("words"), (False, True))
        desk |= "unsettled"
        desk.app = App(YN, (("m", 1),), (("x", "yes"),), (("home", (), None),))
        self.assertEqual(desk.best("words"), (False, True))

    def test_first_fault(self):
        seen = [0, 0]
        for source, app, rule, kinds in self.each(80):
            desk = self.watching(Desk(app, rule), kinds)
            deeds = drawn_session(source, app, rule, 40)
            for kind, name in verdict(app, rule)[:2]:
                deeds = witness(app, rule, kind, name) + deeds[:10]
            deeds = source.choice((list, tuple))(deeds)
            before = copied(deeds)
            expected = None
            for at, last in reversed(list(enumerate(play(app, rule, deeds)))):
                found = [fault for fault in faults(app, rule, last) if fault[0] in kinds]
                expected = (at - 1, found[0]) if found else expected
            self.assertEqual(desk.first_fault(deeds), expected)
            if desk.verdict() == []:
                self.assertIsNone(expected)
            self.assertEqual(deeds, before)
            seen[expected is None] += 1
        self.assertGreater(min(seen), 20)

    def test_first_fault_by_hand(self):
        desk = self.watching(Desk(interface_app(), Rule(words=False)), ("unsettled",))
        deeds = [("set", "x", "no"), ("land", 1), ("land", 0), ("land", 7)]
        self.assertEqual(desk.first_fault(deeds), (2, ("unsettled", "d")))
        self.assertEqual(desk.first_fault(tuple(deeds)), (2, ("unsettled", "d")))
        self.assertIsNone(desk.first_fault(deeds[:2]))
        self.assertIsNone(desk.first_fault(()))
        desk -= "unsettled"
        self.assertIsNone(desk.first_fault(deeds))
        # The first fault of a Step that has several, and the first one that is watched.
        both = self.watching(Desk(handler_app(), Rule(holds="listed")), ("elder", "barred"))
        self.assertEqual(both.first_fault([("set", "x", "no"), ("press", "h")]), (1, ("elder", "h")))

    def test_the_beginning(self):
        # No session begins with a fault; where the first deed has one, its index is 0.
        desk = self.watching(Desk(interface_app(), Rule(saves="records")), KINDS)
        self.assertEqual(desk.first_fault([("reopen", (0,))]), (0, ("unsettled", "d")))

    def test_wrong_deeds_come_first(self):
        desk = self.watching(Desk(interface_app(), Rule(words=False)), KINDS)
        deeds = [("set", "x", "no"), ("land", 1), ("land", 0)]
        self.assertEqual(desk.first_fault(deeds)[0], 2)
        for value in (*STRANGE, *LARGE, ("send",), ["go", "home"], ("land", False)):
            for kind in (list, tuple):
                with self.assertRaises(BadDeed) as caught:
                    desk.first_fault(kind(deeds + [value, None]))
                self.assertIs(caught.exception.deed, value)

    def test_text_and_opened(self):
        for source, app, rule, kinds in self.each(40):
            desk = self.watching(Desk(app, rule), kinds)
            text = desk.text()
            self.assertEqual(text, write_app(app) + "\n\n" + write_rule(rule))
            desk["one"] = "one"
            for opened in (Desk.opened(text), desk.opened(text)):
                self.assertIs(type(opened), Desk)
                self.assertTrue(opened.app == app and opened.rule == rule)
                self.assertEqual((opened.watched, len(opened)), ((), 0))
                self.assertEqual(opened.text(), text)
                with self.assertRaises(NothingToRedo):
                    opened.redo()

    def assert_wrong(self, line, text):
        with self.assertRaises(InvalidText) as caught:
            Desk.opened(text)
        self.assertEqual(caught.exception.line, line)

    def test_texts_that_cannot_be_opened(self):
        app, rule = full_app(), Rule()
        text = write_session(app, rule, ())
        count = len(text.split("\n"))
        self.assertTrue(Desk.opened(text).app == app)
        for deeds in ([("land", 0)], [("send",), ("set", "x", "no")]):
            self.assert_wrong(count, write_session(app, rule, deeds))
        for more in ("\n", "\n\n", "\n\nzzz", "\nland 0", "\n ", "\nsaves nothing"):
            self.assert_wrong(count, text + more)
        alone = write_app(app)
        size = len(alone.split("\n"))
        self.assert_wrong(size, alone)
        self.assert_wrong(size + 1, alone + "\n")
        self.assert_wrong(size + 1, alone + "\n\n")
        self.assert_wrong(size, alone + "\n" + write_rule(rule))
        self.assert_wrong(0, write_rule(rule))
        self.assert_wrong(0, "")
        for at in range(1, count):
            self.assert_wrong(at, "\n".join(text.split("\n")[:at]))
        for value in (*STRANGE, *LARGE):
            self.assert_wrong(0, value)

    def test_an_app_with_one_page(self):
        app = App(YN, (("m", 1),), (("x", "yes"),), (("home", (), None),), made=(("a", "m", (X,)),), form=("a",))
        desk = self.watching(Desk(app, Rule(sending="go")), KINDS)
        self.assertEqual(desk.verdict(), [("sent", "a")])
        self.assertEqual(desk.best("sending"), ("bar", "wait"))
        self.assertEqual(desk.first_fault([("send",), ("set", "x", "no"), ("send",)]), (2, ("sent", "a")))


if __name__ == "__main__":
    unittest.main()
