"""[26] and [27]: what is kept, and sessions that are closed and opened."""

import unittest

from onesession.apps import App
from onesession.errors import BadDeed, BadJournal, NotSaved
from onesession.journal import calm, play
from onesession.judging import due, stale
from onesession.reopening import given_up, is_saved, opened, saved, shortened, visits
from onesession.rules import Rule
from onesession.running import Step, begin, step
from onesession.standings import call_now, instances, is_quiet, value_of, wanted
from tests.samples import NOT_X, STRANGE, X, YN, after, copied, full_app, interface_app, random_app, random_deed
from tests.samples import random_rule, sources, with_flag, with_list

R = ("slot", "r")
HOME = (("home", (), None),)
X_YES = (0, (("x", "yes"),))
X_NO = (0, (("x", "no"),))
LATER_X_YES = (1, (("x", "yes"),))
R_NO = (0, (("r", "no"),))
R_YES = (0, (("r", "yes"),))
SAVES = ("nothing", "records", "values")


def row_app(**changes):
    """An app with a late slot and rows; the second edition of the late slot has the other word."""
    passed = {"rows": ("r", "no", "g", "n", (R,)), "late": (("d", "m", (X, NOT_X)),), **changes}
    return App(YN, (("m", 2), ("n", 1)), (("x", "yes"), ("y", "no")), HOME, **passed)


def with_rows(rule):
    """A standing with the words of the late slot and of the second of two rows, and with acts."""
    deeds = [("add", 3), ("add", 1), ("rowset", 1, "yes"), ("land", 0), ("land", 2), ("set", "x", "no")]
    return after(row_app(), rule, *deeds).standing


def shown(last):
    """What a Step has."""
    return (last.standing, last.events)


class SavedTest(unittest.TestCase):
    def test_nothing(self):
        rule = Rule(saves="nothing")
        told = saved(row_app(), rule, with_rows(rule))
        self.assertEqual(told, (("no", "no"), ((3, "no"), (1, "yes")), ()))

    def test_records(self):
        rule = Rule(saves="records")
        standing = with_rows(rule)
        told = saved(row_app(), rule, standing)
        records = (("yes", X_NO, X_YES), (None, R_NO, None), ("yes", R_YES, R_YES))
        self.assertEqual(told, (("no", "no"), ((3, "no"), (1, "yes")), records))
        self.assertEqual(standing[5], records)

    def test_values(self):
        rule = Rule(saves="values")
        told = saved(row_app(), rule, with_rows(rule))
        self.assertEqual(told[2], (("yes", X_YES), (None, None), ("yes", R_YES)))

    def test_at_the_beginning(self):
        app = interface_app()
        kept = {"nothing": (), "records": ((None, X_YES, None),), "values": ((None, None),)}
        for saves in SAVES:
            rule = Rule(saves=saves)
            self.assertEqual(saved(app, rule, begin(app, rule).standing), (("yes",), (), kept[saves]))


class IsSavedTest(unittest.TestCase):
    def assert_not_saved(self, app, rule, *values):
        for value in values:
            kept = copied(value)
            self.assertIs(is_saved(app, rule, value), False, repr(value))
            self.assertEqual(repr(value), repr(kept))

    def test_what_saved_tells(self):
        for source in sources(150):
            app, rule = random_app(source), random_rule(source)
            last = begin(app, rule)
            for _ in range(12):
                last = step(app, rule, last.standing, random_deed(source, app, last.standing))
                value = saved(app, rule, last.standing)
                self.assertIs(is_saved(app, rule, value), True)
                self.assert_not_saved(app, rule, *with_flag(value), *with_list(value))

    def test_one_part_too_many_or_too_few(self):
        for saves in SAVES:
            rule = Rule(saves=saves)
            app = row_app()
            value = saved(app, rule, with_rows(rule))
            self.assert_not_saved(app, rule, (), value[:1], value[:2], value + ((),), (value,), value[::-1])
            inputs, rows, kept = value
            self.assert_not_saved(app, rule, (inputs[:1], rows, kept), (inputs + ("yes",), rows, kept), ((), rows, kept))
            self.assert_not_saved(app, rule, (inputs, rows, kept + (None,)), (inputs, rows, ((),)))
            if saves != "nothing":
                self.assert_not_saved(app, rule, (inputs, rows, ()), (inputs, rows, kept[:-1]), (inputs, rows[:1], kept))
                self.assert_not_saved(app, rule, (inputs, (), kept), (inputs, rows, kept + kept[:1]))
                for at, item in enumerate(kept):
                    for wrong in (item[:-1], item + (None,), (), None, "yes"):
                        self.assert_not_saved(app, rule, (inputs, rows, kept[:at] + (wrong,) + kept[at + 1:]))

    def test_another_rule(self):
        for saves in SAVES:
            value = saved(row_app(), Rule(saves=saves), with_rows(Rule(saves=saves)))
            for other in SAVES:
                self.assertIs(is_saved(row_app(), Rule(saves=other), value), saves == other)

    def test_words_that_are_none(self):
        rule = Rule(saves="values")
        inputs, rows, kept = saved(row_app(), rule, with_rows(rule))
        for word in ("may", "", None, 0, True, ("yes",), ["yes"], {"yes": 1}):
            self.assert_not_saved(row_app(), rule, ((word, "no"), rows, kept), (("no", word), rows, kept))
            self.assert_not_saved(row_app(), rule, (inputs, (rows[0], (1, word)), kept))
            self.assert_not_saved(row_app(), rule, (inputs, rows, ((word, X_YES),) + kept[1:]))

    def test_rows(self):
        rule = Rule()
        app = row_app()
        right = [(), ((1, "no"),), ((3, "yes"), (1, "yes"), (2, "no"))]
        for rows in right:
            self.assertIs(is_saved(app, rule, (("no", "no"), rows, ())), True)
        wrong = [
            ((1, "no"), (1, "yes")), ((2, "no"), (1, "yes"), (2, "no")), ((0, "no"),), ((4, "no"),), ((-1, "no"),),
            ((True, "no"),), (("no", 1),), ((1,),), ((1, "no", "no"),), (1, "no"), ([1, "no"],), [(1, "no")], [], {}, None,
            ((1, "no"), (2, "no"), (3, "no"), (1, "no")), ((1, "no"),) * 4, (None,), ((),), "", 0, False, (("1", "no"),),
        ]
        for rows in wrong:
            self.assert_not_saved(app, rule, (("no", "no"), rows, ()))
            if rows not in ([], {}, None, "", 0, False):
                self.assert_not_saved(app, Rule(saves="values"), (("no", "no"), rows, ((None, None),) * (1 + len(rows))))

    def test_an_app_without_rows(self):
        rule = Rule()
        self.assertIs(is_saved(interface_app(), rule, (("no",), (), ())), True)
        self.assert_not_saved(interface_app(), rule, (("no",), ((1, "no"),), ()), (("no",), [], ()), (("no",), None, ()))

    def test_nothing_is_kept_but_nothing(self):
        for kept in (None, [], {}, ((None, None),), "", 0, False):
            self.assert_not_saved(interface_app(), Rule(), (("no",), (), kept))

    def test_what_is_there_and_what_it_was_made_from(self):
        app = interface_app()
        for saves, between in (("values", ()), ("records", (None,)), ("records", (X_NO,)), ("records", (LATER_X_YES,))):
            rule = Rule(saves=saves)
            for word, made in (("yes", X_YES), ("no", X_YES), ("yes", LATER_X_YES), ("no", X_NO), (None, None)):
                self.assertIs(is_saved(app, rule, (("no",), (), ((word,) + between + (made,),))), True)
            for word, made in ((None, X_YES), ("yes", None), ("may", X_YES), ("may", None)):
                self.assert_not_saved(app, rule, (("no",), (), ((word,) + between + (made,),)))

    def test_calls(self):
        wrong = [
            (2, (("x", "yes"),)), (-1, (("x", "yes"),)), (True, (("x", "yes"),)), (False, (("x", "yes"),)),
            (None, (("x", "yes"),)), ("0", (("x", "yes"),)), (0, ()), (0, (("y", "yes"),)), (0, (("x", "may"),)),
            (0, (("x", "yes"), ("x", "yes"))), (0, (("x",),)), (0, (("x", "yes", "no"),)), (0, ("x", "yes")),
            (0, [("x", "yes")]), (0, (["x", "yes"],)), [0, (("x", "yes"),)], (0,), (0, (("x", "yes"),), 1), (), (0, None),
            (0, (("yes", "x"),)), (0, (None,)), (0, (("x", None),)), 0, True, "x", {}, {0: (("x", "yes"),)}, (0, {}),
            (10 ** 40, (("x", "yes"),)),
        ]
        for call in wrong:
            self.assert_not_saved(interface_app(), Rule(saves="values"), (("no",), (), (("yes", call),)))
            self.assert_not_saved(interface_app(), Rule(saves="records"), (("no",), (), (("yes", X_YES, call),)))
            if call is not None:
                self.assert_not_saved(interface_app(), Rule(saves="records"), (("no",), (), ((None, call, None),)))

    def test_the_order_and_the_slots_of_a_call(self):
        exprs = (("pair", (YN, YN), ("slot", "y"), X), ("word", "no"))
        app = row_app(late=(("d", "m", exprs),), rows=None)
        rule = Rule(saves="values")

        def value(*call):
            return (("no", "no"), (), (("yes", call),))

        self.assertIs(is_saved(app, rule, value(0, (("y", "no"), ("x", "yes")))), True)
        self.assertIs(is_saved(app, rule, value(1, ())), True)
        self.assert_not_saved(app, rule, value(0, (("x", "yes"), ("y", "no"))), value(0, (("y", "no"),)),
                              value(1, (("y", "no"), ("x", "yes"))), value(0, ()))

    def test_calls_of_rows(self):
        rule = Rule(saves="values")
        right = (("no", "no"), ((2, "no"),), ((None, None), ("yes", R_NO)))
        self.assertIs(is_saved(row_app(), rule, right), True)
        # The module of rows has one edition, and their expression does not read x.
        for call in (X_YES, (1, (("r", "no"),)), (0, (("g", "no"),))):
            self.assert_not_saved(row_app(), rule, right[:2] + (((None, None), ("yes", call)),))
        self.assert_not_saved(row_app(), rule, right[:2] + (right[2][::-1],))

    def test_any_value(self):
        for app in (interface_app(), row_app(), full_app()):
            for saves in SAVES:
                rule = Rule(saves=saves)
                inputs, rows, kept = saved(app, rule, begin(app, rule).standing)
                for value in STRANGE:
                    self.assert_not_saved(app, rule, value, (value, rows, kept), (value,) * 3)
                    if value != ():
                        self.assert_not_saved(app, rule, (inputs, value, kept), (inputs, rows, value))
                    if value != (None, None):
                        self.assert_not_saved(app, rule, (inputs, rows, (value,) * len(app.late_names)))


class OpenedTest(unittest.TestCase):
    def test_wrong_values_come_first(self):
        app = interface_app()
        for value in [*STRANGE, (("yes",), (), ((None, None),)), [("yes",), (), ()]]:
            for editions in ((0,), None, (2,), [0]):
                with self.assertRaises(NotSaved):
                    opened(app, Rule(), value, editions)

    def test_wrong_editions(self):
        app = interface_app()
        right = (("yes",), (), ())
        for editions in [*STRANGE, (2,), (-1,), (True,), (False,), [0], (0, 0), ((0,),), ("0",), 0, (None,)]:
            with self.assertRaises(BadDeed) as caught:
                opened(app, Rule(), right, editions)
            self.assertEqual(repr(caught.exception.deed), repr(("reopen", editions)))

    def test_under_nothing(self):
        last = opened(row_app(), Rule(), (("no", "yes"), ((2, "yes"),), ()), (1, 0))
        self.assertIsInstance(last, Step)
        self.assertEqual(last.events, (("reopened",), ("begun", "d", 0), ("begun", "g", 2)))
        call = (1, (("x", "no"),))
        records = ((None, call, None), (None, R_YES, None))
        acts = (("d", 0, call, True), ("g", 2, R_YES, True))
        self.assertEqual(last.standing, (("no", "yes"), (1, 0), ((2, "yes"),), "home", None, records, acts, (), (), False))

    def test_under_records(self):
        app, rule = interface_app(), Rule(saves="records")
        for record in (("no", X_NO, X_YES), ("yes", X_YES, LATER_X_YES), (None, None, None)):
            last = opened(app, rule, (("no",), (), (record,)), (0,))
            begun = () if record[1] == X_NO else (("begun", "d", 0),)
            self.assertEqual(last.events, (("reopened",),) + begun)
            self.assertEqual(last.standing[5], ((record[0], X_NO, record[2]),))

    def test_under_values(self):
        app = interface_app()
        last = opened(app, Rule(saves="values"), (("yes",), (), (("no", X_NO),)), (1,))
        self.assertEqual((last.events, last.standing[5]), ((("reopened",),), (("no", LATER_X_YES, LATER_X_YES),)))
        clear = Rule(saves="values", keep="clear")
        last = opened(app, clear, (("yes",), (), (("no", X_NO),)), (1,))
        self.assertEqual(last.events, (("reopened",), ("begun", "d", 0)))
        self.assertEqual(last.standing[5], ((None, LATER_X_YES, None),))
        # What was made from the call of now stays, though it is not its result.
        last = opened(app, clear, (("yes",), (), (("no", X_YES),)), (0,))
        self.assertEqual(last.standing[5], (("no", X_YES, X_YES),))
        last = opened(app, Rule(saves="values"), (("yes",), (), ((None, None),)), (1,))
        self.assertEqual(last.standing[5], ((None, LATER_X_YES, None),))

    def test_what_is_passed_stays_as_it_was(self):
        value = (("no",), (), (("yes", X_NO, X_YES),))
        kept = copied(value)
        opened(interface_app(), Rule(saves="records"), value, (1,))
        self.assertEqual(value, kept)

    def test_from_what_saved_tells(self):
        for saves in SAVES:
            for keep in ("keep", "clear"):
                for again in ("change", "match"):
                    for source in sources(12, start=300):
                        app = random_app(source)
                        self.assert_opened(source, app, random_rule(source, saves=saves, keep=keep, again=again))

    def assert_opened(self, source, app, rule):
        last = begin(app, rule)
        for _ in range(15):
            last = step(app, rule, last.standing, random_deed(source, app, last.standing))
            editions = tuple(source.randrange(count) for _, count in app.modules)
            told = opened(app, rule, saved(app, rule, last.standing), editions)
            self.assertEqual(shown(told), shown(step(app, rule, last.standing, ("reopen", editions))))


class GivenUpTest(unittest.TestCase):
    def test_under_change(self):
        app, rule = interface_app(), Rule(words=False)
        done = [("set", "x", "no"), ("land", 1), ("land", 0)]
        self.assertEqual(given_up(app, rule, begin(app, rule).standing), ())
        self.assertEqual(given_up(app, rule, after(app, rule, *done[:2]).standing), ())
        self.assertEqual(given_up(app, rule, after(app, rule, *done).standing), (("d", 0),))
        # The word is not the due one, but it would be asked for again.
        away = Rule(ask="needed")
        last = after(app, away, ("go", "view"), ("land", 0), ("go", "home"), ("set", "x", "no"))
        self.assertEqual(last.standing[5][0][0], "yes")
        self.assertEqual(given_up(app, away, last.standing), ())

    def test_under_match(self):
        app, rule = interface_app(), Rule(again="match", saves="values")
        last = after(app, rule, ("land", 0), ("reopen", (1,)))
        # The word of the first edition is kept as if it were made from the call of now.
        self.assertEqual(last.standing[5], (("yes", LATER_X_YES, LATER_X_YES),))
        self.assertEqual(given_up(app, rule, last.standing), (("d", 0),))
        # LAST does not count here.
        other = Rule(again="match", saves="records", ask="needed")
        last = opened(app, other, (("yes",), (), ((None, X_YES, None),)), (0,))
        self.assertEqual(given_up(app, other, last.standing), ())
        change = Rule(saves="records", ask="needed")
        last = opened(app, change, (("yes",), (), ((None, X_YES, None),)), (0,))
        self.assertEqual(given_up(app, change, last.standing), (("d", 0),))

    def test_an_instance_that_is_not_wanted_can_be_given_up(self):
        app, rule = interface_app(), Rule(words=False, ask="needed")
        done = [("go", "view"), ("set", "x", "no"), ("land", 1), ("land", 0), ("go", "home")]
        standing = after(app, rule, *done).standing
        self.assertEqual((given_up(app, rule, standing), stale(app, rule, standing)), ((("d", 0),), ()))

    def test_an_instance_with_an_act(self):
        app, rule = interface_app(), Rule(words=False)
        standing = after(app, rule, ("set", "x", "no"), ("land", 1)).standing
        self.assertEqual(given_up(app, rule, standing), ())
        self.assertEqual(len(standing[6]), 1)

    def test_rows(self):
        for key, names in (("id", (("g", 3), ("g", 1))), ("place", (("g", 1), ("g", 2)))):
            rule = Rule(words=False, key=key)
            deeds = [("land", 0), ("add", 3), ("add", 1), ("rowset", 3, "yes"), ("rowset", 1, "yes")]
            # The acts are those of the rows with their first words and then with the other ones.
            last = after(row_app(), rule, *deeds, ("land", 2), ("land", 2), ("land", 0), ("land", 0))
            self.assertEqual(given_up(row_app(), rule, last.standing), names)

    def test_as_the_document_tells_it(self):
        seen = {"change": 0, "match": 0}
        for source in sources(250):
            again = source.choice(("change", "match"))
            app, rule = random_app(source), random_rule(source, again=again, saves=source.choice(SAVES))
            last = begin(app, rule)
            for _ in range(25):
                last = step(app, rule, last.standing, random_deed(source, app, last.standing))
                standing = last.standing
                expected = []
                for at, name in enumerate(instances(app, rule, standing)):
                    begun = standing[5][at][1 if again == "change" else 2]
                    acts = [act for act in standing[6] if act[:2] == name]
                    is_due = value_of(app, rule, standing, name) == due(app, rule, standing, name)
                    if not acts and not is_due and begun == call_now(app, rule, standing, name):
                        expected.append(name)
                self.assertEqual(given_up(app, rule, standing), tuple(expected))
                seen[again] += len(expected)
                if is_quiet(standing):
                    asked = wanted(app, rule, standing)
                    self.assertEqual(stale(app, rule, standing), tuple(name for name in expected if name in asked))
        self.assertGreater(min(seen.values()), 5)


class VisitsTest(unittest.TestCase):
    def test_visits(self):
        app = interface_app()
        go, land, again, other = ("go", "view"), ("land", 0), ("reopen", (0,)), ("reopen", (1,))
        parted = {
            (): ((),),
            (go, land): ((go, land),),
            (again,): ((), ()),
            (again, go): ((), (go,)),
            (go, land, other): ((go, land), ()),
            (go, again, land, go, other, land): ((go,), (land, go), (land,)),
            (again, other, again): ((), (), (), ()),
        }
        for deeds, expected in parted.items():
            for kind in (tuple, list):
                self.assertEqual(visits(app, kind(deeds)), expected)
            self.assertIs(type(visits(app, deeds)), tuple)
            self.assertEqual({type(visit) for visit in visits(app, deeds)}, {tuple})

    def test_wrong_items(self):
        app, rule = interface_app(), Rule()
        for value in [*STRANGE, ("reopen", (2,)), ("reopen",), ("reopen", [0]), ["go", "view"]]:
            right = (("go", "view"), ("reopen", (1,)), ("land", 0))
            for at in (0, 1, 3):
                for kind in (tuple, list):
                    deeds = kind(right[:at] + (value,) + right[at:])
                    for call in (lambda: visits(app, deeds), lambda: shortened(app, rule, deeds),
                                 lambda: shortened(app, Rule(saves="values"), deeds)):
                        with self.assertRaises(BadJournal) as caught:
                            call()
                        self.assertEqual(caught.exception.index, at)


class ShortenedTest(unittest.TestCase):
    def test_under_other_values_of_saves(self):
        deeds = (("set", "x", "no"), ("land", 0), ("reopen", (1,)), ("land", 0))
        for saves in ("records", "values"):
            for kind in (tuple, list):
                told = shortened(interface_app(), Rule(saves=saves), kind(deeds))
                self.assertEqual((told, type(told)), (deeds, tuple))

    def test_without_a_reopen_deed(self):
        for deeds in ((), (("set", "x", "no"), ("land", 0))):
            for kind in (tuple, list):
                told = shortened(interface_app(), Rule(), kind(deeds))
                self.assertEqual((told, type(told)), (deeds, tuple))

    def test_inputs(self):
        app = row_app()
        ahead = (("set", "x", "no"), ("set", "y", "yes"), ("land", 0), ("edit", "m", 1))
        back = (("set", "x", "yes"),)
        rest = (("reopen", (1, 0)), ("set", "y", "no"), ("land", 0))
        sets = (("set", "x", "no"), ("set", "y", "yes"))
        for kind in (tuple, list):
            self.assertEqual(shortened(app, Rule(), kind(ahead + rest)), sets + rest)
            # An input that has its first word again needs no deed.
            self.assertEqual(shortened(app, Rule(), kind(ahead + back + rest)), sets[1:] + rest)
        self.assertEqual(shortened(app, Rule(), rest), rest)

    def test_only_the_last_reopen_deed_counts(self):
        deeds = (("set", "x", "no"), ("reopen", (1, 0)), ("set", "y", "yes"), ("reopen", (0, 0)), ("land", 0))
        expected = (("set", "x", "no"), ("set", "y", "yes"), ("reopen", (0, 0)), ("land", 0))
        self.assertEqual(shortened(row_app(), Rule(), deeds), expected)

    def test_rows(self):
        ahead = (("add", 1), ("add", 2), ("add", 3), ("rowset", 2, "yes"), ("swap", 0), ("drop", 1), ("swap", 0))
        rest = (("reopen", (0, 0)), ("add", 1))
        expected = (("add", 3), ("add", 2), ("rowset", 2, "yes"))
        self.assertEqual(shortened(row_app(), Rule(), ahead + rest), expected + rest)
        self.assertEqual(shortened(row_app(), Rule(), ahead + (("rowset", 2, "no"),) + rest), (("add", 3), ("add", 2)) + rest)

    def test_what_a_handler_has_set(self):
        handlers = (("h", "n", "home", "x", (NOT_X,), (), "now"),)
        app = row_app(handlers=handlers)
        rest = (("reopen", (0, 0)), ("press", "h"))
        self.assertEqual(shortened(app, Rule(), (("press", "h"),) + rest), (("set", "x", "no"),) + rest)
        self.assertEqual(shortened(app, Rule(), (("press", "h"), ("press", "h")) + rest), rest)

    def test_the_list_stays_as_it_was(self):
        deeds = [("set", "x", "no"), ("reopen", (0,)), ("land", 0)]
        kept = copied(deeds)
        shortened(interface_app(), Rule(), deeds)
        visits(interface_app(), deeds)
        self.assertEqual(deeds, kept)


class FactsTest(unittest.TestCase):
    def session(self, source, app, rule, length=14):
        """A random session that has been closed and opened again."""
        deeds = []
        standing = begin(app, rule).standing
        for _ in range(length):
            deed = random_deed(source, app, standing)
            if source.random() < 0.15:
                deed = ("reopen", tuple(source.randrange(count) for _, count in app.modules))
            deeds.append(deed)
            standing = step(app, rule, standing, deed).standing
        return deeds

    def test_shortened_sessions_end_alike(self):
        shorter = 0
        for source in sources(200):
            app, rule = random_app(source), random_rule(source, saves=source.choice(SAVES + ("nothing",) * 3))
            deeds = self.session(source, app, rule)
            told = shortened(app, rule, deeds)
            if "reopen" in [deed[0] for deed in deeds]:
                self.assertEqual(shown(play(app, rule, told)[-1]), shown(play(app, rule, deeds)[-1]))
            shorter += len(told) < len(deeds)
        self.assertGreater(shorter, 30)

    def test_visits_put_together(self):
        for source in sources(100, start=400):
            app, rule = random_app(source), random_rule(source)
            deeds = self.session(source, app, rule)
            told = visits(app, deeds)
            again = [deed for deed in deeds if deed[0] == "reopen"]
            self.assertEqual(len(told), len(again) + 1)
            together = list(told[0])
            for deed, visit in zip(again, told[1:]):
                together += [deed, *visit]
            self.assertEqual(together, deeds)

    def test_nothing_is_given_up_behind_a_reopen_deed(self):
        kinds = ({"saves": "nothing"}, {"saves": "records", "again": "match"}, {"saves": "values", "keep": "clear"})
        for number, fixed in enumerate(kinds):
            for source in sources(60, start=700 + 100 * number):
                app, rule = random_app(source), random_rule(source, **fixed)
                deeds = self.session(source, app, rule)
                for deed, last in zip(deeds, play(app, rule, deeds)[1:]):
                    if deed[0] == "reopen":
                        self.assertEqual(given_up(app, rule, last.standing), ())

    def test_what_had_not_landed_is_given_up_under_records(self):
        app, rule = interface_app(), Rule(saves="records")
        self.assertEqual(given_up(app, rule, after(app, rule, ("reopen", (0,))).standing), (("d", 0),))
        self.assertEqual(given_up(app, rule, after(app, rule, ("reopen", (1,))).standing), ())
        self.assertEqual(given_up(app, rule, after(app, rule, ("land", 0), ("reopen", (0,))).standing), ())

    def test_a_word_that_is_not_due_is_given_up_under_values(self):
        for source in sources(150, start=1100):
            app, rule = random_app(source), random_rule(source, saves="values", keep="keep")
            deeds = self.session(source, app, rule)
            steps = play(app, rule, deeds)
            for deed, ahead, last in zip(deeds, steps, steps[1:]):
                if deed[0] == "reopen":
                    for name in instances(app, rule, last.standing):
                        word = value_of(app, rule, ahead.standing, name)
                        if word is not None and word != due(app, rule, last.standing, name):
                            self.assertIn(name, given_up(app, rule, last.standing))

    def test_stale_when_calm(self):
        for source in sources(100, start=1500):
            app, rule = random_app(source), random_rule(source)
            last = play(app, rule, self.session(source, app, rule))[-1]
            for deed in calm(app, rule, last.standing):
                last = step(app, rule, last.standing, deed)
            gone = given_up(app, rule, last.standing)
            asked = wanted(app, rule, last.standing)
            self.assertEqual(stale(app, rule, last.standing), tuple(name for name in gone if name in asked))


if __name__ == "__main__":
    unittest.main()
