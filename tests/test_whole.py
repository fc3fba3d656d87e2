"""Over the whole program: values of any kind wherever a point takes them, new lists, and nothing that is changed."""

import unittest

from onesession.alike import difference, idle_parts, pairing, plain_rule, rules_alike
from onesession.apps import App
from onesession.books import Book, is_closed, shows_free
from onesession.conditions import barred_reason, elder_reason, pages_come_to, sent_reason, spots, unsettled_reason
from onesession.conditions import wanting_pages
from onesession.counting import counts, counts_by_slot, fewest_begun, fewest_vain, least_page, lost, most_acts
from onesession.deeds import all_deeds, is_deed
from onesession.desk import Desk
from onesession.errors import SessionError
from onesession.exprs import check_expr
from onesession.journal import ends, outer, play, prompt, replay, shows
from onesession.judging import KINDS, all_faults, check_fault, faults
from onesession.live import Live
from onesession.reopening import is_saved, opened, shortened, visits
from onesession.repairs import heals, is_change, least_compared, least_turned, with_changes
from onesession.rules import PARTS, Rule
from onesession.running import begin, step
from onesession.standings import states
from onesession.texts import read_app, read_deeds, read_rule, read_session, write_app, write_deeds, write_rule, write_session
from onesession.verdict import is_reason, sound, verdict, why
from onesession.windows import Windows, all_window_deeds, apart_inputs, apart_session, begin_windows, is_window_deed, own_deeds
from onesession.windows import settling, step_windows, window_faults, words_of
from onesession.witness import witness
from tests.samples import LARGE, STRANGE, YN, copied, full_app, full_arguments, interface_app, nested, random_app, random_rule
from tests.samples import sources
from tests.test_conditions import small_app
from tests.test_verdict import kept_of

APP = full_app()
RULE = Rule(words=False, saves="values", ask="needed", turn="loaded", sending="go", timers="held", holds="listed")
VALUES = (*STRANGE, *LARGE, *nested(None, 20), *nested(("set", "x", "yes"), 18), *nested(10 ** 3999, 20), ({"a": [(True, None)]},))


def calls(value):
    """Calls of all functions with a value wherever a point says that it may be any value.

    Each one returns something or raises an error of the program, whatever the value is.
    """
    first = begin(APP, RULE).standing
    right = [("set", "x", "no"), ("land", 3)]
    windows = Windows(APP, RULE, ("x",), "arrival", 2)
    shared = begin_windows(windows).standing
    live, desk, book = Live(APP, RULE), Desk(APP, RULE), Book(interface_app(), Rule())
    inside = begin(book.app, book.rule).standing
    found = [lambda: check_expr(YN, ("x",), value), lambda: APP.exprs_of(value), lambda: APP.page_named(value),
             lambda: APP.handler_named(value), lambda: RULE.turned(value, "go"), lambda: RULE.turned("sending", value)]
    found += [lambda part=part: App(**{**full_arguments(), part: value}) for part in full_arguments()]
    found += [lambda part=part: Rule(**{part: value}) for part, _ in PARTS]
    found += [lambda: is_deed(APP, value), lambda: step(APP, RULE, first, value), lambda: check_fault(APP, value),
              lambda: live.do(value), lambda: live.land(value), lambda: live.edit(value, value), lambda: live.set_row(value, value),
              lambda: live.add_row(value), lambda: live.drop_row(value), lambda: live.swap_rows(value), lambda: live.go(value),
              lambda: live.press(value), lambda: live.fire_timer(value), lambda: live.reopen(value), lambda: live[value],
              lambda: value in live, lambda: live.__setitem__("x", value), lambda: live.__setitem__(value, "x"),
              lambda: live.__iadd__([value]), lambda: live.trial((value,))]
    for row in ([value], (value,), right + [value], (value, value)):
        found += [lambda row=row: play(APP, RULE, row), lambda row=row: shows(APP, RULE, row, ("sent", "a")),
                  lambda row=row: outer(APP, row), lambda row=row: replay(APP, RULE, row), lambda row=row: prompt(APP, RULE, row),
                  lambda row=row: ends(APP, RULE, row, limit=5), lambda row=row: visits(APP, row),
                  lambda row=row: shortened(APP, RULE, row), lambda row=row: own_deeds(windows, row, 0),
                  lambda row=row: counts(APP, RULE, row), lambda row=row: counts_by_slot(APP, RULE, row),
                  lambda row=row: fewest_begun(APP, [RULE], row), lambda row=row: fewest_vain(APP, [RULE], row),
                  lambda row=row: write_deeds(APP, row), lambda row=row: write_session(APP, RULE, row),
                  lambda row=row: desk.first_fault(row), lambda row=row: least_turned(APP, RULE, row),
                  lambda row=row: with_changes(APP, RULE, row), lambda row=row: heals(APP, RULE, "sent", row)]
    found += [lambda: shows(APP, RULE, value, ("sent", "a")), lambda: shows(APP, RULE, (), value),
              lambda: ends(APP, RULE, (), limit=value), lambda: is_saved(APP, RULE, value),
              lambda: is_saved(APP, RULE, (value, value, value)), lambda: is_saved(APP, RULE, (("yes", "no"), (), value)),
              lambda: opened(APP, RULE, value, (0, 0)), lambda: opened(APP, RULE, (("yes", "no"), (), ((None, None),) * 2), value),
              lambda: Windows(APP, RULE, value, "arrival", 2), lambda: Windows(APP, RULE, (), value, 2),
              lambda: Windows(APP, RULE, (), "count", value), lambda: is_window_deed(windows, value),
              lambda: is_window_deed(windows, ("at", 0, value)), lambda: is_window_deed(windows, ("hear", value, value)),
              lambda: step_windows(windows, shared, value), lambda: words_of(windows, shared, value),
              lambda: own_deeds(windows, [], value), lambda: apart_session(windows, value)]
    found += [lambda: why(APP, RULE, value, "d"), lambda: why(APP, RULE, "unsettled", value), lambda: why(APP, RULE, value, value),
              lambda: is_reason(APP, RULE, value, value, value), lambda: is_reason(APP, RULE, "unsettled", value, value)]
    found += [lambda fault=fault: is_reason(APP, RULE, *fault, value) for fault in all_faults(APP)]
    found += [lambda fault=fault, head=head, size=size: is_reason(APP, RULE, *fault, (head,) + (value,) * size)
              for fault in all_faults(APP) for head, size in (("late", 3), ("return", 5), ("saved", 3), ("held", 2), ("way", 3), ("sent", 3))]
    found += [lambda: witness(APP, RULE, value, value), lambda: witness(APP, RULE, "sent", value), lambda: is_change(APP, RULE, value)]
    found += [lambda head=head, name=name: is_change(APP, RULE, (head, name, value)) for head, name in
              (("rule", "words"), ("exprs", "a"), ("exprs", "d"), ("exprs", "g"), ("needs", "home"), ("guard", "view"), ("listed", "h"),
               ("when", "k"), (value, "a"), ("rule", value), ("needs", value))]
    found += [lambda: heals(APP, RULE, value, []), lambda: Book(APP, RULE, acts=value), lambda: Book(APP, RULE, timers=value),
              lambda: Book(APP, RULE, limit=value), lambda: book.follow(inside, value), lambda: book.is_free(value),
              lambda: is_closed(APP, RULE, [], acts=value), lambda: is_closed(APP, RULE, [], timers=value),
              lambda: shows_free(APP, RULE, [], value), lambda: shows_free(APP, RULE, [], "sent", acts=value),
              lambda: shows_free(APP, RULE, [], "sent", timers=value), lambda: least_page(book, value)]
    found += [lambda part=part: difference((APP, RULE), (APP, Rule(keep="clear")), **{part: value}) for part in ("acts", "timers", "limit")]
    found += [lambda part=part: rules_alike(APP, [RULE], **{part: value}) for part in ("acts", "timers", "limit")]
    found += [lambda: read_app(value), lambda: read_rule(value), lambda: read_deeds(APP, value), lambda: read_session(value),
              lambda: Desk.opened(value), lambda: desk[value], lambda: desk.__setitem__(value, value),
              lambda: desk.__setitem__("words", value), lambda: desk.__ior__(value), lambda: desk.__isub__(value),
              lambda: value in desk, lambda: desk.best(value)]
    return found


class AnyValueTest(unittest.TestCase):
    def test_each_function_with_each_value(self):
        kept = kept_of(APP, RULE)
        for value in VALUES:
            before = repr(value)
            for number, call in enumerate(calls(value)):
                try:
                    call()
                except SessionError:
                    pass
                except Exception as error:
                    self.fail(f"call {number} with {before[:200]}: {error!r}"[:400])
            self.assertEqual(repr(value), before)
        self.assertEqual(kept_of(APP, RULE), kept)

    def test_what_an_error_names_is_the_very_value(self):
        for value in VALUES:
            for call in (lambda: APP.page_named(value), lambda: step(APP, RULE, begin(APP, RULE).standing, value),
                         lambda: check_fault(APP, value), lambda: heals(APP, RULE, value, ())):
                with self.assertRaises(SessionError) as caught:
                    call()
                self.assertIn(True, [found is value for found in vars(caught.exception).values()])


class NewListTest(unittest.TestCase):
    def test_each_list_that_is_told(self):
        for source in sources(12):
            app = source.choice((small_app, random_app))(source)
            rule = random_rule(source)
            standing = begin(app, rule).standing
            windows = Windows(app, rule, app.input_names, "arrival", 2)
            shared = begin_windows(windows)
            book = Book(interface_app(), Rule(words=False))
            inside = begin(book.app, book.rule).standing
            desk = Desk(app, rule)
            desk |= "unsettled"
            rules = [rule, rule.turned("key", "id")]
            asks = [lambda: states(app), lambda: all_deeds(app, standing), lambda: all_faults(app), lambda: verdict(app, rule),
                    lambda: faults(app, rule, begin(app, rule)), lambda: least_compared(app, rule), lambda: Live(app, rule).faults(),
                    lambda: least_turned(app, rule, ["again", "saves"]), lambda: heals(app, rule, "sent", [("rule", "saves", "nothing")]),
                    lambda: ends(app, rule, [], limit=500), lambda: all_window_deeds(windows, shared.standing),
                    lambda: own_deeds(windows, [("at", 0, ("reopen", (0,) * len(app.modules)))], 0),
                    lambda: settling(windows, shared.standing), lambda: window_faults(windows, shared), lambda: apart_inputs(windows),
                    lambda: apart_session(windows, "x"), book.standings, lambda: book.moves(inside), book.faults, lambda: lost(book),
                    lambda: counts_by_slot(app, rule, []), lambda: fewest_begun(app, rules, []), lambda: fewest_vain(app, rules, []),
                    lambda: pairing((book.app, book.rule), (book.app, book.rule)), lambda: rules_alike(book.app, [book.rule] * 2),
                    desk.verdict, lambda: Live(app, rule).seen_faults()]
            asks += [lambda slot=slot: spots(app, slot) for slot in app.late_slots]
            asks += [lambda slot=slot: wanting_pages(app, rule, slot) for slot in app.late_slots]
            asks += [lambda fault=fault: witness(app, rule, *fault) for fault in verdict(app, rule)]
            for ask in asks:
                told = ask()
                self.assertIs(type(told), list)
                before = copied(told)
                told.append("more")
                told.reverse()
                self.assertEqual(ask(), before)


class SameAnswersTest(unittest.TestCase):
    """The parts of the program say the same of one thing."""

    def test_conditions_verdict_and_repairs(self):
        for source in sources(60, start=40):
            app = source.choice((small_app, random_app))(source)
            rule = random_rule(source)
            told = verdict(app, rule)
            by_hand = [("unsettled", slot) for slot in app.late_slots if unsettled_reason(app, rule, slot) is not None]
            by_hand += [("elder", name) for name in app.handler_names if elder_reason(app, rule, name) is not None]
            by_hand += [("barred", name) for name in app.page_names if barred_reason(app, rule, name) is not None]
            by_hand += [("sent", name) for name in app.form or () if sent_reason(app, rule, name) is not None]
            self.assertEqual(told, by_hand)
            self.assertIs(sound(app, rule), told == [])
            self.assertEqual(least_turned(app, rule, []), [()] if told == [] else [])
            for kind in KINDS:
                self.assertEqual(heals(app, rule, kind, []), [] if kind in [fault[0] for fault in told] else [()])
            again = read_session(write_session(app, plain_rule(app, rule), ()))
            # Neither a text nor a part that does not matter makes another verdict.
            self.assertEqual(verdict(again[0], again[1]), told)
            self.assertEqual(set(pages_come_to(again[0])), set(pages_come_to(app)))

    def test_texts_and_sessions(self):
        for source in sources(40, start=90):
            app, rule = random_app(source), random_rule(source)
            for kind, name in verdict(app, rule):
                deeds = witness(app, rule, kind, name)
                other, same, again = read_session(write_session(app, rule, deeds))
                self.assertEqual(write_app(other) + write_rule(same), write_app(app) + write_rule(rule))
                self.assertIs(shows(other, same, again, (kind, name)), True)
                self.assertEqual(counts(other, same, again), counts(app, rule, deeds))
            self.assertEqual(idle_parts(read_app(write_app(app)), read_rule(write_rule(rule))), idle_parts(app, rule))

    def test_books_and_live_sessions(self):
        book = Book(interface_app(), Rule(words=False), acts=2)
        for standing in book.standings():
            live = Live(book.app, book.rule)
            live += book.least_session(standing)
            self.assertEqual(live.standing, standing)
        self.assertEqual(most_acts(book)[0], 2)
        self.assertEqual(read_deeds(book.app, write_deeds(book.app, most_acts(book)[1])), most_acts(book)[1])


if __name__ == "__main__":
    unittest.main()
