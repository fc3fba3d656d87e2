"""The interface: what stands in which file, and its examples."""

import ast
import doctest
import importlib
import inspect
import unittest
from pathlib import Path

ROOT = Path(__file__).resolve().parent.parent
PACKAGE = ROOT / "onesession"

FUNCTIONS = {
    "exprs": {
        "check_expr": "words, slots, value", "value": "words, expr, given", "reads": "expr", "matters": "words, expr",
        "first_unlike": "words, expr, other",
    },
    "standings": {
        "states": "app", "words_now": "app, inputs, editions",
        "call_at": "app, slot, inputs, editions, row_word=None", "result_of": "app, slot, call",
        "lets": "app, page, inputs, editions", "handler_call": "app, handler, inputs, editions",
        "outcome": "app, handler, call", "listed_now": "app, handler, inputs, editions",
        "instances": "app, rule, standing", "wanted": "app, rule, standing",
        "call_now": "app, rule, standing, instance", "value_of": "app, rule, standing, instance",
        "is_quiet": "standing",
    },
    "deeds": {"is_deed": "app, value", "all_deeds": "app, standing"},
    "running": {"begin": "app, rule", "step": "app, rule, standing, deed"},
    "judging": {
        "all_faults": "app", "check_fault": "app, value", "due": "app, rule, standing, instance",
        "stale": "app, rule, standing", "check_due": "app, rule, standing, check", "faults": "app, rule, step",
    },
    "screens": {"screen": "app, rule, standing", "due_screen": "app, rule, standing"},
    "journal": {
        "play": "app, rule, deeds", "shows": "app, rule, deeds, fault", "outer": "app, deeds",
        "replay": "app, rule, deeds", "prompt": "app, rule, deeds", "calm": "app, rule, standing",
        "ends": "app, rule, deeds, *, limit=1000",
    },
    "reopening": {
        "saved": "app, rule, standing", "is_saved": "app, rule, value", "opened": "app, rule, value, editions",
        "given_up": "app, rule, standing", "visits": "app, deeds", "shortened": "app, rule, deeds",
    },
    "windows": {
        "is_window_deed": "windows, value", "all_window_deeds": "windows, standing", "begin_windows": "windows",
        "step_windows": "windows, standing, deed", "is_all_quiet": "standing", "words_of": "windows, standing, slot",
        "own_deeds": "windows, deeds, window", "settling": "windows, standing", "window_faults": "windows, shown",
        "apart_inputs": "windows", "apart_session": "windows, slot",
    },
    "conditions": {
        "spots": "app, slot", "call_in": "app, slot, spot", "told_apart": "rule, call, other", "pages_come_to": "app",
        "wanting_pages": "app, rule, slot", "unsettled_reason": "app, rule, slot",
        "held_walk": "app, rule, handler, first, second", "elder_reason": "app, rule, handler",
        "barred_reason": "app, rule, page", "sent_reason": "app, rule, check",
    },
    "verdict": {
        "verdict": "app, rule", "sound": "app, rule", "why": "app, rule, kind, name",
        "is_reason": "app, rule, kind, name, found",
    },
    "witness": {"witness": "app, rule, kind, name"},
    "repairs": {
        "least_compared": "app, rule", "least_turned": "app, rule, parts", "is_change": "app, rule, item",
        "with_changes": "app, rule, changes", "heals": "app, rule, kind, candidates",
    },
    "books": {
        "is_closed": "app, rule, standings, *, acts=2, timers=1",
        "shows_free": "app, rule, standings, kind, *, acts=2, timers=1",
    },
    "alike": {
        "difference": "first, second, *, acts=2, timers=1, limit=5000",
        "alike": "first, second, *, acts=2, timers=1, limit=5000",
        "pairing": "first, second, *, acts=2, timers=1, limit=5000",
        "rules_alike": "app, rules, *, acts=2, timers=1, limit=5000",
        "idle_parts": "app, rule", "plain_rule": "app, rule",
    },
    "counting": {
        "counts": "app, rule, deeds", "counts_by_slot": "app, rule, deeds", "fewest_begun": "app, rules, deeds",
        "fewest_vain": "app, rules, deeds", "is_settled": "app, rule, standing", "lost": "book", "most_acts": "book",
        "least_page": "book, page",
    },
    "texts": {
        "write_app": "app", "write_rule": "rule", "write_deeds": "app, deeds", "write_session": "app, rule, deeds",
        "read_app": "text", "read_rule": "text", "read_deeds": "app, text", "read_session": "text",
    },
}
VALUES = {"rules": ("PARTS",), "judging": ("KINDS",), "windows": ("ORDERS",)}
METHODS = {
    ("apps", "App"): {
        "__init__": "self, words, modules, inputs, pages, *, made=(), late=(), rows=None, handlers=(), form=None",
        "exprs_of": "self, slot", "page_named": "self, name", "handler_named": "self, name", "__eq__": "self, other",
    },
    ("rules", "Rule"): {
        "__init__": "self, *, again='change', one='many', words=True, code=True, newest=False, keep='keep', key='id', "
                    "ask='eager', turn='once', guard='begin', holds='now', swap='renew', timers='now', sending='bar', "
                    "saves='nothing'",
        "turned": "self, part, value", "__eq__": "self, other",
    },
    ("running", "Step"): {"__init__": "self, standing, events"},
    ("live", "Live"): {
        "__init__": "self, app, rule, *, standing=None", "do": "self, deed", "land": "self, k",
        "edit": "self, module, edition", "set_row": "self, row, word", "add_row": "self, row",
        "drop_row": "self, row", "swap_rows": "self, position", "go": "self, page", "press": "self, handler",
        "fire_timer": "self, k", "send": "self", "reopen": "self, editions", "faults": "self", "screen": "self",
        "seen_faults": "self", "trial": "self, deeds", "undo": "self", "redo": "self", "fork": "self",
        "__getitem__": "self, at", "__setitem__": "self, at, worth", "__iadd__": "self, other", "__len__": "self",
        "__contains__": "self, x",
    },
    ("windows", "Windows"): {"__init__": "self, app, rule, shared, order, number", "__eq__": "self, other"},
    ("windows", "WindowStep"): {"__init__": "self, standing, steps, heard"},
    ("books", "Book"): {
        "__init__": "self, app, rule, *, acts=2, timers=1, limit=2000", "__len__": "self", "__contains__": "self, x",
        "standings": "self", "moves": "self, standing", "follow": "self, standing, deed", "least_session": "self, standing",
        "deeds_between": "self, first, second", "faults": "self", "least_fault": "self, kind, name", "is_free": "self, kind",
    },
    ("desk", "Desk"): {
        "__init__": "self, app, rule", "__getitem__": "self, at", "__setitem__": "self, at, worth", "__len__": "self",
        "__contains__": "self, x", "__ior__": "self, other", "__isub__": "self, other", "put_app": "self, app",
        "put_rule": "self, rule", "undo": "self", "redo": "self", "trying": "self, deed", "verdict": "self",
        "best": "self, part", "first_fault": "self, deeds", "text": "self", "opened": "text",
    },
}
PROPERTIES = {"app": True, "rule": True, "watched": False}

EXAMPLES = """
>>> from onesession.exprs import value
>>> value(("yes", "no"), ("map", ("no", "yes"), ("slot", "x")), (("x", "yes"),))
'no'

>>> from onesession.exprs import check_expr
>>> from onesession.errors import InvalidApp, InvalidExpr
>>> try:
...     check_expr(("yes", "no"), ("x",), ("map", ("no", "yes"), ("slot", "y")))
... except InvalidExpr as error:
...     error.path
(0,)

>>> from onesession.apps import App
>>> try:
...     App(("yes", "no"), (("m", 1),), (("x", "no"),), (("home", (), None),), made=(("b", "m", (("slot", "c"),)),))
... except InvalidApp as error:
...     (error.part, error.path)
('made', (0, 0))

>>> from onesession.rules import Rule
>>> late = (("d", "m", (("slot", "x"), ("map", ("no", "yes"), ("slot", "x")))),)
>>> pages = (("home", (), None), ("view", ("d",), None))
>>> app = App(("yes", "no"), (("m", 2),), (("x", "yes"),), pages, late=late)
>>> from onesession.running import begin, step
>>> begin(app, Rule()).standing
(('yes',), (0,), (), 'home', None, ((None, (0, (('x', 'yes'),)), None),), (('d', 0, (0, (('x', 'yes'),)), True),), \
(), (), False)

>>> rule = Rule(words=False)
>>> first = step(app, rule, begin(app, rule).standing, ("set", "x", "no")).standing
>>> second = step(app, rule, first, ("land", 1)).standing
>>> last = step(app, rule, second, ("land", 0))
>>> from onesession.judging import faults
>>> (last.events, last.standing[5], faults(app, rule, last))
((('taken', 'd', 0),), (('yes', (0, (('x', 'no'),)), (0, (('x', 'yes'),))),), [('unsettled', 'd')])

>>> from onesession.verdict import verdict
>>> [verdict(app, Rule()), verdict(app, Rule(words=False))]
[[], [('unsettled', 'd')]]

>>> from onesession.texts import write_app
>>> write_app(app)
'words yes no\\nmodule m 2\\ninput x yes\\nlate d m\\nslot x\\nmap no yes slot x\\npage home\\npage view d'
"""


def tree(name):
    """The parsed file of a module of the package."""
    return ast.parse((PACKAGE / (name + ".py")).read_text())


def signature(found):
    return str(inspect.signature(found))[1:-1]


class InterfaceTest(unittest.TestCase):
    def test_functions_are_defined_in_their_files(self):
        for name, functions in FUNCTIONS.items():
            module = importlib.import_module("onesession." + name)
            defined = [node.name for node in tree(name).body if isinstance(node, ast.FunctionDef)]
            for function, arguments in functions.items():
                self.assertEqual(defined.count(function), 1, function)
                self.assertEqual(signature(getattr(module, function)), arguments)

    def test_classes_and_their_methods_are_defined_in_their_files(self):
        for (name, kind), methods in METHODS.items():
            module = importlib.import_module("onesession." + name)
            body = [node for node in tree(name).body if isinstance(node, ast.ClassDef) and node.name == kind][0].body
            defined = [node.name for node in body if isinstance(node, ast.FunctionDef)]
            for method, arguments in methods.items():
                self.assertIn(method, defined)
                self.assertEqual(signature(getattr(getattr(module, kind), method)), arguments)

    def test_the_properties_of_a_desk(self):
        desk = importlib.import_module("onesession.desk").Desk
        for name, has_setter in PROPERTIES.items():
            found = vars(desk)[name]
            self.assertIsInstance(found, property)
            self.assertIs(found.fset is not None, has_setter)
        self.assertIsInstance(vars(desk)["opened"], classmethod)

    def test_values_are_assigned_in_their_files(self):
        for name, values in VALUES.items():
            targets = [node.targets[0].id for node in tree(name).body if isinstance(node, ast.Assign)]
            for value in values:
                self.assertEqual(targets.count(value), 1)

    def test_the_examples(self):
        test = doctest.DocTestParser().get_doctest(EXAMPLES, {}, "interface", None, 0)
        report = []
        runner = doctest.DocTestRunner(verbose=False)
        runner.run(test, out=report.append)
        self.assertEqual(runner.failures, 0, "".join(report))
        self.assertGreater(runner.tries, 14)

    def test_the_examples_of_the_readme(self):
        text = (ROOT / "README.md").read_text()
        report = []
        runner = doctest.DocTestRunner(verbose=False)
        runner.run(doctest.DocTestParser().get_doctest(text, {}, "README.md", None, 0), out=report.append)
        self.assertEqual(runner.failures, 0, "".join(report))
        self.assertGreater(runner.tries, 5)


if __name__ == "__main__":
    unittest.main()
