"""Sessions of many apps under many rules, beside a second way to run them, and what the document says of them."""

import unittest

from onesession.deeds import all_deeds
from onesession.rules import PARTS, Rule
from onesession.running import begin, step
from onesession.standings import instances, is_quiet, wanted
from tests.model import Model
from tests.samples import random_app, random_deed, random_rule, sources


def random_session(source, app, rule, length, without=()):
    """Yield the standing, deed, Step and model of each deed of a random session."""
    model = Model(app, rule)
    last = begin(app, rule)
    for _ in range(length):
        deed = random_deed(source, app, last.standing)
        if deed[0] in without:
            continue
        standing = last.standing
        last = step(app, rule, standing, deed)
        model.do(deed)
        yield standing, deed, last, model


class ModelTest(unittest.TestCase):
    def test_the_beginning(self):
        for source in sources(300):
            app, rule = random_app(source), random_rule(source)
            model = Model(app, rule)
            first = begin(app, rule)
            self.assertEqual(repr(first.standing), repr(model.standing()))
            self.assertEqual(first.events, tuple(model.events))
            self.assertEqual(model.faults(), [])

    def test_sessions(self):
        for source in sources(500):
            app, rule = random_app(source), random_rule(source)
            for _, deed, last, model in random_session(source, app, rule, 30):
                # By repr, since a flag is equal to an integer.
                self.assertEqual(repr(last.standing), repr(model.standing()), (rule.choice, deed))
                self.assertEqual(repr(last.events), repr(tuple(model.events)), (rule.choice, deed))
                found = [name for name, _, _ in model.there()]
                self.assertEqual(list(instances(app, rule, last.standing)), found)
                expected = tuple(name for name in found if model.is_wanted(name[0]))
                self.assertEqual(wanted(app, rule, last.standing), expected)
                self.assertEqual(is_quiet(last.standing), model.is_quiet())

    def test_every_deed_of_some_standings(self):
        for source in sources(40, start=1000):
            app, rule = random_app(source), random_rule(source)
            done = []
            last = begin(app, rule)
            for _ in range(6):
                for deed in all_deeds(app, last.standing):
                    model = Model(app, rule)
                    for earlier in done:
                        model.do(earlier)
                    events = model.do(deed)
                    found = step(app, rule, last.standing, deed)
                    self.assertEqual((found.standing, found.events), (model.standing(), events))
                done.append(random_deed(source, app, last.standing))
                last = step(app, rule, last.standing, done[-1])


class FactsTest(unittest.TestCase):
    def test_no_page_is_barred_under_once_or_land(self):
        for source in sources(80, start=2000):
            part = source.choice(({"turn": "once"}, {"guard": "land"}))
            app, rule = random_app(source), random_rule(source, **part)
            for _, _, _, model in random_session(source, app, rule, 25):
                self.assertFalse([fault for fault in model.faults() if fault[0] == "barred"])

    def test_no_handler_is_elder_that_takes_the_call_of_now(self):
        for source in sources(80, start=3000):
            app, rule = random_app(source), random_rule(source)
            safe = [item[0] for item in app.handlers
                    if (item[6] == "now" and rule.holds == "now") or (item[6] == "later" and rule.timers == "now")]
            for _, _, _, model in random_session(source, app, rule, 25):
                self.assertFalse([fault for fault in model.faults() if fault[0] == "elder" and fault[1] in safe])

    def test_a_made_check_is_right_when_the_form_is_sent(self):
        for source in sources(80, start=4000):
            app, rule = random_app(source), random_rule(source, sending=source.choice(("bar", "wait")))
            for _, _, _, model in random_session(source, app, rule, 25):
                sent = [name for kind, name in model.faults() if kind == "sent"]
                self.assertFalse([name for name in sent if name in app.made_names])

    def test_a_quiet_standing_is_not_stale_under_these_rules(self):
        kinds = ({"again": "match"}, {"ask": "eager", "one": "one"}, {"ask": "eager", "words": True, "code": True},
                 {"ask": "eager", "newest": True})
        for source in sources(120, start=5000):
            app, rule = random_app(source), random_rule(source, **source.choice(kinds))
            for _, _, _, model in random_session(source, app, rule, 25, without=("reopen",)):
                if model.is_quiet():
                    self.assertEqual(model.stale(), [])

    def test_landing_at_once(self):
        for source in sources(120, start=6000):
            app, rule = random_app(source), random_rule(source)
            standing = begin(app, rule).standing
            for _ in range(12):
                while standing[6]:
                    last = step(app, rule, standing, ("land", 0))
                    standing = last.standing
                    self.assertIn("taken", [event[0] for event in last.events])
                    self.assertNotIn("begun", [event[0] for event in last.events])
                standing = step(app, rule, standing, random_deed(source, app, standing)).standing

    def test_behind_a_reopening_that_saves_nothing(self):
        for source in sources(120, start=7000):
            app, rule = random_app(source), random_rule(source, saves="nothing")
            standing = begin(app, rule).standing
            for _ in range(12):
                standing = step(app, rule, standing, random_deed(source, app, standing)).standing
            deed = ("reopen", tuple(source.randrange(count) for _, count in app.modules))
            last = step(app, rule, standing, deed)
            other = begin(app, rule).standing
            for slot, word in zip(app.input_names, standing[0]):
                other = step(app, rule, other, ("set", slot, word)).standing
            for row, word in standing[2]:
                other = step(app, rule, other, ("add", row)).standing
                other = step(app, rule, other, ("rowset", row, word)).standing
            again = step(app, rule, other, deed)
            self.assertEqual((last.standing, last.events), (again.standing, again.events))

    def test_parts_that_do_not_matter(self):
        for source in sources(200, start=8000):
            app, rule = random_app(source), random_rule(source)
            idle = [part for part, values in PARTS if self.is_idle(app, rule, part)]
            other = Rule(**{**dict(zip([part for part, _ in PARTS], rule.choice)),
                            **{part: source.choice(dict(PARTS)[part]) for part in idle}})
            standing = begin(app, rule).standing
            self.assertEqual(begin(app, other).standing, standing)
            for _ in range(20):
                deed = random_deed(source, app, standing)
                last, again = step(app, rule, standing, deed), step(app, other, standing, deed)
                self.assertEqual((last.standing, last.events), (again.standing, again.events))
                standing = last.standing

    def is_idle(self, app, rule, part):
        """Tell whether a part of the rule can never be seen in the sessions of an app."""
        if not app.late_slots and part in ("again", "one", "words", "code", "newest", "keep", "ask", "saves"):
            return True
        if part == "ask":
            return all(set(page[1]) == set(app.late_slots) for page in app.pages)
        reasons = {
            "key": app.rows is None,
            "code": all(count == 1 for _, count in app.modules),
            "newest": rule.one == "one",
            "guard": rule.turn == "once",
            "holds": not app.handlers,
            "swap": not app.handlers or rule.holds == "now",
            "timers": not [item for item in app.handlers if item[6] == "later"],
            "sending": app.form is None,
        }
        return reasons.get(part, False)


if __name__ == "__main__":
    unittest.main()
