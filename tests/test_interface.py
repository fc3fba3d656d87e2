"""The interface: what stands in which file, and its examples."""

import ast
import doctest
import importlib
import inspect
import unittest
from pathlib import Path

ROOT = Path(__file__).resolve().parent.parent
PACKAGE = ROOT / "onesession"

FUNCTIONS = {
    "exprs": {
        "check_expr": "words, slots, value", "value": "words, expr, given", "reads": "expr", "matters": "words, expr",
        "first_unlike": "words, expr, other",
    },
    "standings": {
        "states": "app", "words_now": "app, inputs, editions",
        "call_at": "app, slot, inputs, editions, row_word=None", "result_of": "app, slot, call",
        "lets": "app, page, inputs, editions", "handler_call": "app, handler, inputs, editions",
        "outcome": "app, handler, call", "listed_now": "app, handler, inputs, editions",
        "instances": "app, rule, standing", "wanted": "app, rule, standing",
        "call_now": "app, rule, standing, instance", "value_of": "app, rule, standing, instance",
        "is_quiet": "standing",
    },
    "deeds": {"is_deed": "app, value", "all_deeds": "app, standing"},
    "running": {"begin": "app, rule", "step": "app, rule, standing, deed"},
}
METHODS = {
    ("apps", "App"): {
        "__init__": "self, words, modules, inputs, pages, *, made=(), late=(), rows=None, handlers=(), form=None",
        "exprs_of": "self, slot", "page_named": "self, name", "handler_named": "self, name", "__eq__": "self, other",
    },
    ("rules", "Rule"): {
        "__init__": "self, *, again='change', one='many', words=True, code=True, newest=False, keep='keep', key='id', "
                    "ask='eager', turn='once', guard='begin', holds='now', swap='renew', timers='now', sending='bar', "
                    "saves='nothing'",
        "turned": "self, part, value", "__eq__": "self, other",
    },
    ("running", "Step"): {"__init__": "self, standing, events"},
}

EXAMPLES = """
>>> from onesession.exprs import value
>>> value(("yes", "no"), ("map", ("no", "yes"), ("slot", "x")), (("x", "yes"),))
'no'

>>> from onesession.exprs import check_expr
>>> from onesession.errors import InvalidApp, InvalidExpr
>>> try:
...     check_expr(("yes", "no"), ("x",), ("map", ("no", "yes"), ("slot", "y")))
... except InvalidExpr as error:
...     error.path
(0,)

>>> from onesession.apps import App
>>> try:
...     App(("yes", "no"), (("m", 1),), (("x", "no"),), (("home", (), None),), made=(("b", "m", (("slot", "c"),)),))
... except InvalidApp as error:
...     (error.part, error.path)
('made', (0, 0))

>>> from onesession.rules import Rule
>>> late = (("d", "m", (("slot", "x"), ("map", ("no", "yes"), ("slot", "x")))),)
>>> pages = (("home", (), None), ("view", ("d",), None))
>>> app = App(("yes", "no"), (("m", 2),), (("x", "yes"),), pages, late=late)
>>> from onesession.running import begin, step
>>> begin(app, Rule()).standing
(('yes',), (0,), (), 'home', None, ((None, (0, (('x', 'yes'),)), None),), (('d', 0, (0, (('x', 'yes'),)), True),), \
(), (), False)

>>> rule = Rule(words=False)
>>> first = step(app, rule, begin(app, rule).standing, ("set", "x", "no")).standing
>>> second = step(app, rule, first, ("land", 1)).standing
>>> last = step(app, rule, second, ("land", 0))
>>> (last.events, last.standing[5])
((('taken', 'd', 0),), (('yes', (0, (('x', 'no'),)), (0, (('x', 'yes'),))),))
"""


def tree(name):
    """The parsed file of a module of the package."""
    return ast.parse((PACKAGE / (name + ".py")).read_text())


def signature(found):
    return str(inspect.signature(found))[1:-1]


class InterfaceTest(unittest.TestCase):
    def test_functions_are_defined_in_their_files(self):
        for name, functions in FUNCTIONS.items():
            module = importlib.import_module("onesession." + name)
            defined = [node.name for node in tree(name).body if isinstance(node, ast.FunctionDef)]
            for function, arguments in functions.items():
                self.assertEqual(defined.count(function), 1, function)
                self.assertEqual(signature(getattr(module, function)), arguments)

    def test_classes_and_their_methods_are_defined_in_their_files(self):
        for (name, kind), methods in METHODS.items():
            module = importlib.import_module("onesession." + name)
            body = [node for node in tree(name).body if isinstance(node, ast.ClassDef) and node.name == kind][0].body
            defined = [node.name for node in body if isinstance(node, ast.FunctionDef)]
            for method, arguments in methods.items():
                self.assertIn(method, defined)
                self.assertEqual(signature(getattr(getattr(module, kind), method)), arguments)

    def test_the_examples(self):
        test = doctest.DocTestParser().get_doctest(EXAMPLES, {}, "interface", None, 0)
        report = []
        runner = doctest.DocTestRunner(verbose=False)
        runner.run(test, out=report.append)
        self.assertEqual(runner.failures, 0, "".join(report))
        self.assertGreater(runner.tries, 10)

    def test_the_examples_of_the_readme(self):
        text = (ROOT / "README.md").read_text()
        report = []
        runner = doctest.DocTestRunner(verbose=False)
        runner.run(doctest.DocTestParser().get_doctest(text, {}, "README.md", None, 0), out=report.append)
        self.assertEqual(runner.failures, 0, "".join(report))
        self.assertGreater(runner.tries, 5)


if __name__ == "__main__":
    unittest.main()
