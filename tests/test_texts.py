"""[56] and [57]: texts of apps, rules, deeds and sessions."""

import time
import unittest

from onesession.apps import App
from onesession.deeds import all_deeds
from onesession.errors import BadDeed, InvalidText
from onesession.rules import PARTS, Rule
from onesession.running import begin, step
from onesession.texts import read_app, read_deeds, read_rule, read_session, write_app, write_deeds, write_rule, write_session
from tests.samples import LARGE, NOT_X, STRANGE, X, Y, YN, YNM, copied, full_app, interface_app, largest_app, random_app
from tests.samples import random_deed, random_rule, sources, tiny_app
from tests.test_conditions import small_app
from tests.test_verdict import kept_of
from tests.text_model import app_text, wrong_line

HOME = (("home", (), None),)
FULL = """words yes no
module m 1
module n 2
input x yes
input y no
made a m
map no yes slot x
made b n
slot y
slot a
late d n
slot x
slot b
late e m
pair yes no no no slot x slot y
rows r no g n
slot r
slot x
page home
page view d g
guard m
slot x
page last e
guard n
slot x
slot y
handler h m home x now x a
map no yes slot x
handler k n view y later
slot x
slot y
form a d"""
RULE = """again change
one many
words yes
code yes
newest no
keep keep
key id
ask eager
turn once
guard begin
holds now
swap renew
timers now
sending bar
saves nothing"""
DEEDS = (("land", 0), ("set", "x", "no"), ("edit", "n", 1), ("rowset", 3, "yes"), ("add", 1), ("drop", 2), ("swap", 1),
         ("go", "view"), ("press", "k"), ("timer", 12), ("send",), ("reopen", (0, 1)))
DEED_LINES = """land 0
set x no
edit n 1
rowset 3 yes
add 1
drop 2
swap 1
go view
press k
timer 12
send
reopen 0 1"""
NO_STRINGS = tuple(value for value in (*STRANGE, *LARGE) if not isinstance(value, str))


class TextCase(unittest.TestCase):
    def assert_wrong(self, line, read, *arguments):
        with self.assertRaises(InvalidText) as caught:
            read(*arguments)
        self.assertEqual(caught.exception.line, line, arguments[-1])

    def assert_judged(self, text):
        """read_app says the same of a text as a second way to judge texts."""
        line = wrong_line(text)
        if line is None:
            self.assertEqual(write_app(read_app(text)), text)
        else:
            self.assert_wrong(line, read_app, text)
        return line


class AppTextTest(TextCase):
    def test_by_hand(self):
        self.assertEqual(write_app(full_app()), FULL)
        self.assertTrue(read_app(FULL) == full_app())
        text = "words yes no\nmodule m 2\ninput x yes\nlate d m\nslot x\nmap no yes slot x\npage home\npage view d"
        self.assertEqual(write_app(interface_app()), text)
        least = App(YNM, (("m", 1),), (("x", "may"),), HOME)
        self.assertEqual(write_app(least), "words yes no may\nmodule m 1\ninput x may\npage home")

    def test_drawn_apps(self):
        for source in sources(300):
            app = source.choice((random_app, small_app, tiny_app, largest_app))(source)
            kept = kept_of(app, Rule())
            text = write_app(app)
            self.assertEqual(text, app_text(app))
            again = read_app(text)
            self.assertTrue(again == app)
            self.assertEqual(repr(kept_of(again, Rule())), repr(kept))
            self.assertEqual(write_app(again), text)
            self.assertEqual(kept_of(app, Rule()), kept)

    def test_two_apps_are_equal_exactly_if_their_texts_are(self):
        apps = [source.choice((tiny_app, small_app))(source) for source in sources(80)]
        for app in apps:
            for other in apps:
                self.assertIs(app == other, write_app(app) == write_app(other))

    def test_expressions_of_every_size(self):
        deep = X
        for _ in range(5):
            deep = ("map", ("no", "yes"), deep)
        wide = ("pair", (YN, YN), ("pair", (YN, YN), ("pair", (YN, YN), X, X), ("pair", (YN, YN), X, Y)), ("pair", (YN, YN), X, ("map", YN, Y)))
        for expr in (deep, wide):
            app = App(YN, (("m", 1),), (("x", "yes"), ("y", "no")), HOME, made=(("a", "m", (expr,)),))
            self.assertTrue(read_app(write_app(app)) == app)
        lines = write_app(App(YN, (("m", 1),), (("x", "yes"),), HOME, made=(("a", "m", (deep,)),))).split("\n")
        self.assert_wrong(4, read_app, "\n".join(lines[:4] + ["map yes no " + lines[4]] + lines[5:]))
        nodes = "pair yes no no yes " * 5 + "slot x" + " slot x" * 5
        self.assertEqual(wrong_line("\n".join(lines[:4] + [nodes] + lines[5:])), None)
        for line in ("pair yes no no yes " * 6 + "slot x" + " slot x" * 6, "map yes no " * 12 + "slot x", "map yes no " * 5000 + "slot x",
                     "pair yes no no yes " * 2000, "pair yes no no yes slot x pair yes no no yes map yes no slot x map yes no "
                     "slot x pair yes no no yes map yes no slot x map yes no map yes no slot x"):
            self.assertEqual(self.assert_judged("\n".join(lines[:4] + [line] + lines[5:])), 4)

    def test_values_that_are_no_strings(self):
        for value in NO_STRINGS:
            self.assert_wrong(0, read_app, value)
        for text in ("", "\n", " ", "\n\n\n", "a" * 100000, "\n" * 99999, "words " * 16000, "map yes no " * 9000):
            self.assert_wrong(0, read_app, text)

    def test_the_text_cut_off_behind_each_line_and_within_it(self):
        for text in (FULL, write_app(interface_app())):
            lines = text.split("\n")
            for at in range(1, len(lines)):
                cut = "\n".join(lines[:at])
                expected = wrong_line(cut)
                if expected is not None:
                    self.assertEqual(expected, at)
                self.assert_judged(cut)
            ends = [at for at in range(1, len(lines)) if wrong_line("\n".join(lines[:at])) is None]
            self.assertTrue(set(range(1, len(lines))) - set(ends))
            for at in range(len(text)):
                self.assert_judged(text[:at])

    def test_each_item_left_out_added_or_replaced(self):
        others = ("yes", "x", "d", "n", "", "zzz")
        lines = FULL.split("\n")
        wrong = right = 0
        for at, line in enumerate(lines):
            items = line.split(" ")
            spoiled = [items[:place] + items[place + 1:] for place in range(len(items))]
            for other in others:
                spoiled += [items[:place] + [other] + items[place + 1:] for place in range(len(items))]
                spoiled += [items[:place] + [other] + items[place:] for place in range(len(items) + 1)]
            for new in spoiled:
                if self.assert_judged("\n".join(lines[:at] + [" ".join(new)] + lines[at + 1:])) is None:
                    right += 1
                else:
                    wrong += 1
        self.assertGreater(min(wrong, right), 30)

    def test_lines_too_early_too_late_twice_or_missing(self):
        lines = FULL.split("\n")
        for at, line in enumerate(lines):
            self.assert_judged("\n".join(lines[:at] + lines[at + 1:]))
            for place in range(at % 3, len(lines) + 1, 3):
                self.assert_judged("\n".join(lines[:place] + [line] + lines[place:]))
            self.assert_judged("\n".join(lines[:at] + [line] + lines[at:]))
        for at in range(len(lines) - 1):
            self.assert_judged("\n".join(lines[:at] + [lines[at + 1], lines[at]] + lines[at + 2:]))

    def test_drawn_texts_that_are_spoiled(self):
        for source in sources(120, start=500):
            lines = write_app(source.choice((random_app, small_app, tiny_app))(source)).split("\n")
            other = write_app(source.choice((small_app, tiny_app))(source)).split("\n")
            for _ in range(6):
                at = source.randrange(len(lines))
                new = source.choice(([], [source.choice(other)], [source.choice(lines)], [lines[at], source.choice(other)],
                                     other[:source.randint(0, len(other))]))
                self.assert_judged("\n".join(lines[:at] + new + lines[at + 1:]))

    def test_blanks_and_other_characters(self):
        lines = FULL.split("\n")
        for at, line in enumerate(lines):
            changed = [" " + line, line + " ", line.replace(" ", "  ", 1), line + "\r", line.replace(" ", "\t", 1), line.upper(),
                       line.capitalize(), line + "\x0b", line.replace(" ", "\u00a0", 1), line + "\u2028", line.replace("o", "\u043e")]
            for new in changed:
                if new != line:
                    self.assert_wrong(at, read_app, "\n".join(lines[:at] + [new] + lines[at + 1:]))
            self.assert_wrong(at, read_app, "\n".join(lines[:at] + [""] + lines[at:]))
        self.assert_wrong(len(lines), read_app, FULL + "\n")
        self.assert_wrong(len(lines), read_app, FULL + "\n\n")
        self.assert_wrong(0, read_app, FULL.replace("\n", "\r\n"))
        self.assert_wrong(0, read_app, "\n" + FULL)
        for count in ("01", "+1", "1.", "-1", "\u0661", "\u00b9", "1_0", "0", "3", "11", "one", "", "1 "):
            self.assert_wrong(1, read_app, FULL.replace("module m 1", "module m " + count))

    def test_too_many_of_each(self):
        """One more than there may be, with names that are new."""
        most = ["words yes no", "module m 1", "module n 1", "input x yes", "input y yes", "input z yes", "made a m", "slot x", "made b m",
                "slot a", "made c m", "slot b", "late d m", "slot x", "late e m", "slot x", "late f m", "slot x", "rows r no g m",
                "slot r", "page home", "page view", "page last", "handler h m home x now", "slot x", "handler k m home x now", "slot x",
                "form a b"]
        self.assertEqual(write_app(read_app("\n".join(most))), "\n".join(most))
        for behind, new in (("module n 1", ["module o 1"]), ("input z yes", ["input w yes"]), ("slot b", ["made q m", "slot x"]),
                            ("rows r no g m", None), ("page last", ["page more"]), ("form a b", ["form c"]),
                            ("form a b", None), ("form a b", ["handler j m home x now", "slot x"])):
            at = most.index(behind) + 1
            if new is None:
                text = "\n".join(most[:at - 1] + [behind + (" c" if "form" in behind else " h")] + most[at:])
                at -= 1
            else:
                text = "\n".join(most[:at] + new + most[at:])
            self.assert_wrong(at, read_app, text)
            self.assertEqual(self.assert_judged(text), at)
        for head, new in (("rows r", ["late q m", "slot x"]), ("form", ["handler j m home x now", "slot x"])):
            at = [line.startswith(head) for line in most].index(True)
            text = "\n".join(most[:at] + new + most[at:])
            self.assert_wrong(at, read_app, text)
            self.assertEqual(self.assert_judged(text), at)

    def test_what_lines_ahead_allow(self):
        table = (
            # A name that stands already, of each kind.
            ("words yes no", "words yes yes", 0), ("module n 2", "module m 2", 2), ("input y no", "input x no", 4),
            ("made b n", "made x n", 7), ("made b n", "made a n", 7), ("late d n", "late a n", 10), ("late e m", "late d m", 13),
            ("rows r no g n", "rows d no g n", 15), ("rows r no g n", "rows r no r n", 15), ("rows r no g n", "rows r no e n", 15),
            ("page view d g", "page home d g", 19), ("handler k n view y later", "handler h n view y later", 28),
            ("form a d", "form a a", 31),
            # A slot, a page or a word that may not be named.
            ("page view d g", "page view x", 19), ("page view d g", "page view a", 19), ("page view d g", "page view r", 19),
            ("page view d g", "page view d d", 19), ("form a d", "form g", 31), ("form a d", "form x", 31), ("form a d", "form", 31),
            ("form a d", "form a d e", 31), ("handler k n view y later", "handler k n zzz y later", 28),
            ("handler k n view y later", "handler k n view a later", 28), ("handler k n view y later", "handler k n view y later d", 28),
            ("handler k n view y later", "handler k n view y later x x", 28), ("handler k n view y later", "handler k n view y soon", 28),
            ("input y no", "input y may", 4), ("rows r no g n", "rows r may g n", 15), ("words yes no", "words yes", 0),
            # A module that is not there.
            ("made a m", "made a q", 5), ("late e m", "late e q", 13), ("rows r no g n", "rows r no g q", 15), ("guard m", "guard q", 20),
            ("handler h m home x now x a", "handler h q home x now x a", 26),
            # An expression too few or too many, where the editions are others.
            ("made a m", "made a n", 7), ("made b n", "made b m", 9), ("late d n", "late d m", 12), ("late e m", "late e n", 15),
            ("rows r no g n", "rows r no g m", 17), ("guard m", "guard n", 22), ("module m 1", "module m 2", 7),
            ("module n 2", "module n 1", 9), ("handler h m home x now x a", "handler h n home x now x a", 28),
        )
        for old, new, line in table:
            text = FULL.replace(old, new, 1)
            self.assertNotEqual(text, FULL)
            self.assert_wrong(line, read_app, text)
            self.assertEqual(self.assert_judged(text), line, new)


class RuleTextTest(TextCase):
    def test_all_values_of_all_parts(self):
        self.assertEqual(write_rule(Rule()), RULE)
        for part, values in PARTS:
            for value in values:
                rule = Rule(**{part: value})
                text = write_rule(rule)
                expected = {True: "yes", False: "no"}.get(value, value)
                self.assertIn(f"{part} {expected}", text.split("\n"))
                self.assertTrue(read_rule(text) == rule)
                self.assertEqual(write_rule(read_rule(text)), text)

    def test_drawn_rules(self):
        rules = [random_rule(source) for source in sources(150)]
        for rule in rules:
            self.assertEqual(repr(read_rule(write_rule(rule)).choice), repr(rule.choice))
            for other in rules:
                self.assertIs(rule == other, write_rule(rule) == write_rule(other))

    def test_wrong_lines(self):
        lines = RULE.split("\n")
        for at, line in enumerate(lines):
            part, value = line.split(" ")
            for new in ("", " " + line, line + " ", part + "  " + value, part, value, part + " zzz", "zzz " + value, line.upper(),
                        line + "\r", part + " True", part + " 1", value + " " + part, line + " " + value, part + "\t" + value):
                if new != line:
                    self.assert_wrong(at, read_rule, "\n".join(lines[:at] + [new] + lines[at + 1:]))
            self.assert_wrong(at, read_rule, "\n".join(lines[:at] + lines[at + 1:]))
            self.assert_wrong(at + 1, read_rule, "\n".join(lines[:at + 1] + lines[at:]))
            self.assert_wrong(at, read_rule, "\n".join(lines[:at] + [""] + lines[at:]))
            if at > 0:
                self.assert_wrong(at, read_rule, "\n".join(lines[:at]))
        for text in (RULE + "\n", RULE + "\n\n", RULE + "\nsaves nothing", RULE + "\n ", RULE + "\n\nland 0"):
            self.assert_wrong(15, read_rule, text)
        for part, values in PARTS:
            for other, more in PARTS:
                if other != part and values[0] not in more:
                    at = [name for name, _ in PARTS].index(other)
                    wrong = {True: "yes", False: "no"}.get(values[0], values[0])
                    self.assert_wrong(at, read_rule, "\n".join(lines[:at] + [f"{other} {wrong}"] + lines[at + 1:]))

    def test_other_values(self):
        for value in NO_STRINGS:
            self.assert_wrong(0, read_rule, value)
        for text in ("", "\n", "again", "a" * 100000, "one many"):
            self.assert_wrong(0, read_rule, text)
        self.assert_wrong(1, read_rule, "again match")


class DeedTextTest(TextCase):
    def test_by_hand(self):
        app = full_app()
        for kind in (list, tuple):
            self.assertEqual(write_deeds(app, kind(DEEDS)), DEED_LINES)
            self.assertEqual(write_deeds(app, kind(())), "")
        self.assertEqual(read_deeds(app, DEED_LINES), DEEDS)
        self.assertEqual(read_deeds(app, ""), ())
        self.assertEqual(repr(read_deeds(app, DEED_LINES)), repr(DEEDS))

    def test_drawn_sessions(self):
        for source in sources(150):
            app = source.choice((random_app, small_app, tiny_app))(source)
            last = begin(app, Rule())
            deeds = []
            for _ in range(source.randint(0, 30)):
                deeds.append(source.choice((random_deed(source, app, last.standing), ("land", source.randint(0, 200)), ("timer", 10))))
                last = step(app, Rule(), last.standing, deeds[-1])
            before = copied(deeds)
            text = write_deeds(app, deeds)
            self.assertEqual(text, "\n".join(" ".join(str(item) for item in (deed[:1] + (deed[1] if deed[0] == "reopen" else deed[1:])))
                                             for deed in deeds))
            self.assertEqual(repr(read_deeds(app, text)), repr(tuple(deeds)))
            self.assertEqual(deeds, before)

    def test_all_deeds_of_an_app(self):
        for source in sources(30):
            app = random_app(source)
            deeds = all_deeds(app, begin(app, Rule()).standing)
            self.assertEqual(read_deeds(app, write_deeds(app, deeds)), tuple(deeds))

    def test_large_numbers(self):
        app = interface_app()
        for number in (10, 10 ** 20, 10 ** 3999, 10 ** 4000 - 1):
            for head in ("land", "timer"):
                text = write_deeds(app, [(head, number)])
                self.assertEqual(text, f"{head} {number}")
                self.assertEqual(read_deeds(app, text), ((head, number),))
        for digits in ("1" + "0" * 4000, "9" * 4001, "1" * 99000):
            self.assert_wrong(1, read_deeds, app, "land 0\nland " + digits)
            self.assert_wrong(0, read_deeds, app, "timer " + digits)

    def test_each_item_left_out_added_or_replaced(self):
        app, lines = full_app(), DEED_LINES.split("\n")
        others = ("yes", "may", "x", "d", "m", "n", "home", "zzz", "h", "0", "1", "2", "3", "4", "-1", "+1", "00", "01", "1.0", "", " ",
                  "True", "None", "\u0661", "\u00b2", "1_0", "()", "send", "land", "X")
        kept = spoiled = 0
        for at, line in enumerate(lines):
            items = line.split(" ")
            changed = [items[:place] + items[place + 1:] for place in range(len(items))]
            for other in others:
                changed += [items[:place] + [other] + items[place + 1:] for place in range(len(items))]
                changed += [items[:place] + [other] + items[place:] for place in range(len(items) + 1)]
            for new in [" ".join(row) for row in changed]:
                text = "\n".join(lines[:at] + [new] + lines[at + 1:])
                if new in self.right_lines(app):
                    self.assertEqual(write_deeds(app, read_deeds(app, text)), text)
                    kept += 1
                else:
                    self.assert_wrong(at, read_deeds, app, text)
                    spoiled += 1
        self.assertGreater(kept, 20)
        self.assertGreater(spoiled, 500)

    def right_lines(self, app):
        """All lines of deeds of an app with small numbers."""
        standing = begin(app, Rule()).standing
        deeds = all_deeds(app, standing) + [(head, number) for head in ("land", "timer") for number in range(100)]
        return {" ".join(str(item) for item in deed[:1] + (deed[1] if deed[0] == "reopen" else deed[1:])) for deed in deeds}

    def test_blanks_and_empty_lines(self):
        app, lines = full_app(), DEED_LINES.split("\n")
        for at, line in enumerate(lines):
            for new in (" " + line, line + " ", line.replace(" ", "  ", 1), line + "\r", line.upper(), line + "\t", line + "\x0c"):
                if new != line:
                    self.assert_wrong(at, read_deeds, app, "\n".join(lines[:at] + [new] + lines[at + 1:]))
            self.assert_wrong(at, read_deeds, app, "\n".join(lines[:at] + [""] + lines[at:]))
        self.assert_wrong(len(lines), read_deeds, app, DEED_LINES + "\n")
        for text in ("\n", "\n\n", " ", "\nland 0"):
            self.assert_wrong(0, read_deeds, app, text)
        for value in NO_STRINGS:
            self.assert_wrong(0, read_deeds, app, value)

    def test_deeds_of_another_app(self):
        app = interface_app()
        for line in ("send", "add 1", "drop 1", "swap 0", "rowset 1 yes", "set y yes", "set d yes", "go last", "press h", "edit n 0",
                     "edit m 2", "reopen", "reopen 0 0", "reopen 2", "hear 0 1", "at 0 send"):
            self.assert_wrong(2, read_deeds, app, "land 0\nset x no\n" + line + "\nzzz")

    def test_wrong_deeds_are_not_written(self):
        app = interface_app()
        for value in (*STRANGE, *LARGE, ("send",), ["go", "home"], ("land", True), ("add", 1), ("reopen", [0])):
            for kind in (list, tuple):
                for write in (lambda deeds: write_deeds(app, deeds), lambda deeds: write_session(app, Rule(), deeds)):
                    with self.assertRaises(BadDeed) as caught:
                        write(kind([("land", 0), value, None]))
                    self.assertIs(caught.exception.deed, value)


class SessionTextTest(TextCase):
    def test_by_hand(self):
        app, rule = full_app(), Rule()
        whole = FULL + "\n\n" + RULE + "\n\n" + DEED_LINES
        self.assertEqual(write_session(app, rule, DEEDS), whole)
        self.assertEqual(write_session(app, rule, list(DEEDS)), whole)
        for none in ((), []):
            self.assertEqual(write_session(app, rule, none), FULL + "\n\n" + RULE)
        for text, deeds in ((whole, DEEDS), (FULL + "\n\n" + RULE, ())):
            told = read_session(text)
            self.assertIs(type(told), tuple)
            self.assertTrue(told[0] == app and told[1] == rule and told[2] == deeds)
            self.assertEqual(write_session(*told), text)

    def test_drawn_sessions(self):
        for source in sources(120):
            app, rule = source.choice((random_app, small_app))(source), random_rule(source)
            last = begin(app, rule)
            deeds = []
            for _ in range(source.randint(0, 12)):
                deeds.append(random_deed(source, app, last.standing))
                last = step(app, rule, last.standing, deeds[-1])
            text = write_session(app, rule, deeds)
            told = read_session(text)
            self.assertTrue(told[0] == app and told[1] == rule and told[2] == tuple(deeds))
            self.assertEqual(write_session(*told), text)

    def test_each_line_that_is_wrong(self):
        text = write_session(full_app(), Rule(), DEEDS)
        lines = text.split("\n")
        for at, line in enumerate(lines):
            for new in (line + " ", " " + line, "zzz", line + "\r"):
                if new != line:
                    self.assert_wrong(at, read_session, "\n".join(lines[:at] + [new] + lines[at + 1:]))
            if line != "":
                # A line that is empty: it can stand behind an app that may end there, but not ahead of what follows.
                with self.assertRaises(InvalidText) as caught:
                    read_session("\n".join(lines[:at] + [""] + lines[at + 1:]))
                self.assertIn(caught.exception.line, (at, at + 1))

    def test_where_the_text_is_cut_off(self):
        text = write_session(full_app(), Rule(), DEEDS)
        lines = text.split("\n")
        rule_at, deeds_at = len(FULL.split("\n")) + 1, len(FULL.split("\n")) + 17
        self.assertEqual((lines[rule_at], lines[deeds_at]), ("again change", "land 0"))
        for at in range(1, len(lines)):
            cut = "\n".join(lines[:at])
            if at >= deeds_at + 1 or at == deeds_at - 1:
                read_session(cut)
            else:
                # Also an empty line behind the rule that is the last one.
                self.assert_wrong(at, read_session, cut)

    def test_empty_lines(self):
        lines = write_session(full_app(), Rule(), DEEDS).split("\n")
        rule_at, deeds_at = len(FULL.split("\n")) + 1, len(FULL.split("\n")) + 17
        # One more empty line ahead of the rule, ahead of the deeds, and at the end.
        self.assert_wrong(rule_at, read_session, "\n".join(lines[:rule_at] + [""] + lines[rule_at:]))
        self.assert_wrong(deeds_at, read_session, "\n".join(lines[:deeds_at] + [""] + lines[deeds_at:]))
        self.assert_wrong(len(lines), read_session, "\n".join(lines + [""]))
        # None where there has to be one.
        self.assert_wrong(rule_at - 1, read_session, "\n".join(lines[:rule_at - 1] + lines[rule_at:]))
        self.assert_wrong(deeds_at - 1, read_session, "\n".join(lines[:deeds_at - 1] + lines[deeds_at:]))
        self.assert_wrong(deeds_at, read_session, "\n".join(lines[:deeds_at]))
        self.assert_wrong(deeds_at, read_session, "\n".join(lines[:deeds_at] + [""]))
        self.assert_wrong(rule_at, read_session, "\n".join(lines[:rule_at]))
        self.assert_wrong(rule_at - 1, read_session, FULL)
        self.assert_wrong(0, read_session, RULE)

    def test_an_app_that_ends_earlier(self):
        # An empty line may stand as soon as the lines ahead are the text of an app.
        text = "words yes no\nmodule m 1\ninput x yes\npage home\n\n" + RULE
        self.assertEqual(read_session(text)[2], ())
        self.assert_wrong(3, read_session, "words yes no\nmodule m 1\ninput x yes\n\n" + RULE)
        self.assert_wrong(5, read_session, "words yes no\nmodule m 1\ninput x yes\npage home\nguard m\n\n" + RULE)
        self.assert_wrong(21, read_session, text + "\n\nsend")

    def test_other_values(self):
        for value in NO_STRINGS:
            self.assert_wrong(0, read_session, value)
        for text in ("", "\n", "\n\n", " ", "\n" + FULL + "\n\n" + RULE):
            self.assert_wrong(0, read_session, text)

    def test_a_long_text(self):
        start = time.process_time()
        app, rule = interface_app(), Rule(keep="clear")
        head = write_session(app, rule, ())
        deeds = [("set", "x", ("no", "yes")[number % 2]) for number in range((100000 - len(head) - 100) // 10)]
        text = write_session(app, rule, deeds)
        self.assertGreater(len(text), 90000)
        self.assertLessEqual(len(text), 100000)
        told = read_session(text)
        self.assertEqual(told[2], tuple(deeds))
        self.assertEqual(write_session(*told), text)
        spoiled = text[:-2] + "on"
        self.assert_wrong(len(text.split("\n")) - 1, read_session, spoiled)
        self.assert_wrong(len(deeds), read_deeds, app, "\n".join(["set x no"] * len(deeds)) + "\n")
        self.assert_wrong(3, read_app, "words yes no\nmodule m 1\ninput x yes\npage " + "home " * 19000)
        self.assert_wrong(1, read_app, "words yes no\nmodule m " + "1" * 99000)
        self.assertLess(time.process_time() - start, 20)


if __name__ == "__main__":
    unittest.main()
