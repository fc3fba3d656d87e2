"""LANGUAGE.md: rules that can be asked of the files of the package.

The list of allowed kinds of nodes is narrower than LANGUAGE.md: it has what the package uses.
Before another kind is added to it, its rule is to be read, and asked here as well.
"""

import ast
import builtins
import io
import re
import tokenize
import unittest
from pathlib import Path

PACKAGE = Path(__file__).resolve().parent.parent / "onesession"

NODES = """
    Module FunctionDef ClassDef Return Assign AugAssign For While If Raise Expr Call Attribute Name Constant Tuple List
    Dict Subscript Slice Try ExceptHandler ListComp DictComp comprehension IfExp BoolOp And Or UnaryOp Not USub BinOp Add Sub Mult Compare Eq
    NotEq Lt LtE Gt GtE In NotIn Is IsNot Starred keyword arguments arg alias ImportFrom Load Store
""".split()
BUILTINS = """
    len range enumerate zip min max sum abs sorted reversed int str bool bytes list tuple dict set frozenset isinstance ord
    repr any all divmod Exception ValueError TypeError KeyError IndexError LookupError ZeroDivisionError ArithmeticError
    OverflowError RuntimeError NotImplementedError AttributeError StopIteration NotImplemented
""".split()
METHODS = """
    append clear copy count endswith extend find get index insert isalnum isalpha isdigit islower isspace isupper items join
    keys ljust lower lstrip partition pop remove replace reverse rfind rjust rpartition rsplit rstrip setdefault split
    splitlines startswith strip update upper values zfill bit_length
""".split()
BARRED = """
    register mro elements open input law version_info with_traceback add_note attrgetter breakpoint builtins compile copyright
    credits delattr dir eval exec exit gc getattr globals hasattr help id importlib license locals methodcaller os quit
    setattr super type vars sys
""".split()
WORDS = """
    type typing typing_extensions enum Enum IntEnum StrEnum Flag IntFlag Generic Protocol ABC ABCMeta namedtuple NamedTuple
    TypedDict TYPE_CHECKING abstractmethod
""".split()
OPERATORS = ("__getitem__", "__setitem__", "__contains__", "__iadd__", "__ior__", "__isub__")
DOUBLE = ("__init__", "__eq__", "__repr__", "__str__", "__len__", "__iter__") + OPERATORS
CHANGING = ("append", "clear", "extend", "insert", "pop", "remove", "reverse", "setdefault", "update", "add", "discard")
OPERATOR_ARGUMENTS = {
    "__getitem__": ["self", "at"], "__setitem__": ["self", "at", "worth"], "__contains__": ["self", "x"],
    "__iadd__": ["self", "other"], "__ior__": ["self", "other"], "__isub__": ["self", "other"], "__eq__": ["self", "other"], "__len__": ["self"], "__iter__": ["self"],
}
ITERATED_AT_ONCE = ("zip", "enumerate", "reversed", "range")
TAKE_ITERATED = ("list", "tuple", "dict", "sorted", "sum", "any", "all", "enumerate", "zip", "len")


class File:
    """A file of the package with its parsed text."""

    def __init__(self, path):
        self.name = path.stem
        self.text = path.read_text(encoding="utf-8")
        self.tree = ast.parse(self.text)
        self.nodes = list(ast.walk(self.tree))
        self.parents = {child: node for node in self.nodes for child in ast.iter_child_nodes(node)}

    def of(self, *kinds):
        return [node for node in self.nodes if isinstance(node, kinds)]

    def imported(self):
        return [alias.name for node in self.of(ast.ImportFrom) for alias in node.names]

    def defined(self):
        """All names that are bound at the level of the module, in order."""
        found = self.imported()
        for node in self.tree.body:
            if isinstance(node, (ast.FunctionDef, ast.ClassDef)):
                found.append(node.name)
            if isinstance(node, ast.Assign):
                found.extend(target.id for target in node.targets)
        return found

    def locals(self):
        """All names that are bound in functions."""
        stored = [node.id for node in self.of(ast.Name)
                  if isinstance(node.ctx, ast.Store) and not isinstance(self.parents[self.parents[node]], ast.Module)]
        return stored + [node.arg for node in self.of(ast.arg)]


FILES = [File(path) for path in sorted(PACKAGE.glob("*.py"))]
CLASSES = [node for file in FILES for node in file.of(ast.ClassDef)]
METHODS_OF_CLASSES = [node for kind in CLASSES for node in kind.body if isinstance(node, ast.FunctionDef)]


def decorators(node):
    """The decorators of a function as they are written."""
    return [ast.unparse(item) for item in node.decorator_list]


PROPERTIES = {node.name for node in METHODS_OF_CLASSES if decorators(node) == ["property"]}
CLASS_METHODS = {node.name for node in METHODS_OF_CLASSES if decorators(node) == ["classmethod"]}
OWN_METHODS = {node.name for node in METHODS_OF_CLASSES} - PROPERTIES
STORED = {node.attr for file in FILES for node in file.of(ast.Attribute) if isinstance(node.ctx, ast.Store)}
FUNCTIONS = {}
for found in FILES:
    for function in found.of(ast.FunctionDef):
        FUNCTIONS.setdefault(function.name, []).append(function)


def run_by_operators():
    """All functions and methods that an operator, a comparison, a length or a property that is read runs."""
    names = ("__getitem__", "__contains__", "__eq__", "__len__", "__iter__")
    left = [node for name in names for node in FUNCTIONS.get(name, [])]
    left += [node for name in PROPERTIES for node in FUNCTIONS[name] if decorators(node) == ["property"]]
    reached = []
    while left:
        node = left.pop()
        if node not in reached:
            reached.append(node)
            for call in [item for item in ast.walk(node) if isinstance(item, ast.Call)]:
                name = call.func.id if isinstance(call.func, ast.Name) else call.func.attr
                left.extend(FUNCTIONS.get(name, []))
    return reached


def is_docstring(file, node):
    parent = file.parents[file.parents[node]] if isinstance(file.parents[node], ast.Expr) else None
    return parent is not None and parent.body[0] is file.parents[node]


class LanguageTest(unittest.TestCase):
    file_name = ""

    def each(self):
        """Yield each file; what fails while it is asked about names it."""
        for file in FILES:
            self.file_name = file.name
            yield file

    def _formatMessage(self, msg, standardMsg):
        return f"{self.file_name}: " + super()._formatMessage(msg, standardMsg)

    def test_the_folder(self):
        names = [path.name for path in PACKAGE.iterdir() if path.name != "__pycache__"]
        self.assertIn("__init__.py", names)
        self.assertLessEqual(len(names), 100)
        for name in names:
            self.assertRegex(name, r"^[a-z0-9_]+\.py$")
            self.assertNotIn(name[:-3], BARRED + dir(builtins) + ["test", "tests", "testing", "site", "conftest"])
            self.assertNotRegex(name, r"^(law_|test_)")

    def test_sizes_and_characters(self):
        for file in self.each():
            self.assertRegex(file.text, r"\A[ -~\n]*\Z")
            self.assertLessEqual(len(file.text.split("\n")), 399)
            self.assertLessEqual(max(len(line) for line in file.text.split("\n")), 120)
            for node in file.of(ast.FunctionDef):
                self.assertLessEqual(node.end_lineno - node.lineno + 1, 40, node.name)

    def test_kinds_of_nodes(self):
        for file in self.each():
            for node in file.nodes:
                self.assertIn(type(node).__name__, NODES, getattr(node, "lineno", 0))

    def test_imports(self):
        names = {file.name: file for file in FILES}
        used = {}
        for file in self.each():
            used[file.name] = []
            for node in file.of(ast.ImportFrom):
                self.assertIn(node, file.tree.body)
                self.assertEqual(node.level, 0)
                package, _, name = node.module.partition(".")
                self.assertEqual(package, "onesession")
                used[file.name].append(name)
                own = [item for item in names[name].defined() if item not in names[name].imported()]
                for alias in node.names:
                    self.assertIsNone(alias.asname)
                    self.assertIn(alias.name, own)
                    self.assertTrue([item for item in file.of(ast.Name) if item.id == alias.name], alias.name)
        for name in used:
            left, seen = list(used[name]), set()
            while left:
                other = left.pop()
                self.assertNotEqual(other, name, "a circle of imports")
                if other not in seen:
                    seen.add(other)
                    left.extend(used[other])

    def test_the_level_of_the_module(self):
        for file in self.each():
            self.assertEqual(len(file.defined()), len(set(file.defined())))
            heads = [isinstance(node, ast.ImportFrom) for node in file.tree.body[1:]]
            self.assertEqual(heads, sorted(heads, reverse=True))
            self.assertIsNotNone(ast.get_docstring(file.tree))
            for node in file.tree.body[1:]:
                self.assertIsInstance(node, (ast.ImportFrom, ast.FunctionDef, ast.ClassDef, ast.Assign))
                if isinstance(node, ast.Assign):
                    self.assertEqual([type(target) for target in node.targets], [ast.Name])
                    self.assert_plain(file, node.value, outer=True)

    def assert_plain(self, file, node, outer):
        functions = [item.name for item in file.tree.body if isinstance(item, ast.FunctionDef)]
        if isinstance(node, ast.Tuple) or outer and isinstance(node, (ast.List, ast.Dict)):
            for item in ast.iter_child_nodes(node):
                if not isinstance(item, ast.Load):
                    self.assert_plain(file, item, outer=False)
        elif isinstance(node, ast.Name):
            self.assertIn(node.id, functions)
            above = [item.lineno for item in file.tree.body if getattr(item, "name", None) == node.id]
            self.assertLess(above[0], node.lineno)
        else:
            self.assertIsInstance(node, ast.Constant)

    def test_functions_and_classes(self):
        for file in self.each():
            for node in file.of(ast.FunctionDef):
                self.assertIsInstance(file.parents[node], (ast.Module, ast.ClassDef))
                if isinstance(file.parents[node], ast.Module):
                    self.assertEqual(node.decorator_list, [])
                for item in node.args.args + node.args.kwonlyargs:
                    self.assertIsNone(item.annotation)
                if node.name.startswith("__"):
                    self.assertIn(node.name, DOUBLE)
                else:
                    self.assertIsNotNone(ast.get_docstring(node), node.name)
            for node in file.of(ast.ClassDef):
                self.assertIsInstance(file.parents[node], ast.Module)
                self.assertEqual((node.decorator_list, node.keywords), ([], []))
                names = [item.name for item in node.body if isinstance(item, ast.FunctionDef)
                         and decorators(item) != [item.name + ".setter"]]
                self.assertEqual(len(names), len(set(names)))
                for item in node.body[1:]:
                    self.assertIsInstance(item, ast.FunctionDef)

    def test_properties_and_class_methods(self):
        self.assertFalse(PROPERTIES & (OWN_METHODS | CLASS_METHODS))
        self.assertFalse(CLASS_METHODS & STORED)
        for file in self.each():
            for kind in file.of(ast.ClassDef):
                methods = [item for item in kind.body if isinstance(item, ast.FunctionDef)]
                for at, node in enumerate(methods):
                    arguments = [item.arg for item in node.args.args]
                    if decorators(node) == ["property"]:
                        self.assertEqual(arguments, ["self"])
                    elif decorators(node) == [node.name + ".setter"]:
                        self.assertEqual((arguments, methods[at - 1].name), (["self", "value"], node.name))
                    elif decorators(node) == ["classmethod"]:
                        self.assertEqual(arguments[0], "cls")
                        for item in ast.walk(node):
                            if isinstance(item, ast.Name) and item.id == "cls":
                                self.assertIsInstance(file.parents[item], ast.Call)
                    else:
                        self.assertEqual(node.decorator_list, [])
            for node in file.of(ast.Attribute):
                # No method is read off a class, and no property is assigned or passed behind a star in the package.
                if isinstance(node.value, ast.Name):
                    self.assertNotIn(node.value.id, [kind.name for kind in CLASSES])
                if node.attr in PROPERTIES and isinstance(node.ctx, ast.Store):
                    methods = [item.name for item in self.class_around(file, node).body[1:]]
                    self.assertNotIn(node.attr, methods, node.lineno)

    def class_around(self, file, node):
        while not isinstance(node, ast.ClassDef):
            node = file.parents[node]
        return node

    def test_what_is_tried(self):
        for file in self.each():
            own = {kind.name for kind in CLASSES}
            for node in file.of(ast.Try):
                for handler in node.handlers:
                    named = handler.type.elts if isinstance(handler.type, ast.Tuple) else [handler.type]
                    self.assertTrue({item.id for item in named} <= own)
                    self.assertIsNone(handler.name)
                for row in node.finalbody:
                    self.assertIsInstance(row, ast.Assign)
                    for item in ast.walk(row):
                        self.assertIsInstance(item, (ast.Assign, ast.Tuple, ast.Name, ast.Attribute, ast.Load, ast.Store))
                        if isinstance(item, ast.Attribute):
                            self.assertNotIn(item.attr, PROPERTIES)

    def test_names(self):
        for file in self.each():
            bound = file.defined() + file.locals() + [node.name for node in file.of(ast.FunctionDef)]
            for name in bound:
                self.assertRegex(name, r"^(_|_?[A-Za-z][A-Za-z0-9_]*|__(init|eq|len|iter|getitem|setitem|contains|iadd|ior|isub)__)$")
                # A doctest that has run before leaves "_" among the builtins.
                self.assertNotIn(name, set(dir(builtins)) - {"_"})
                self.assertNotIn(name, BARRED)
            taken = file.imported() + [node.name for node in file.of(ast.ClassDef)]
            for name in file.locals():
                self.assertNotIn(name, taken)
            known = set(bound) | set(BUILTINS)
            for node in file.of(ast.Name):
                if isinstance(file.parents[node], ast.FunctionDef) and node in file.parents[node].decorator_list:
                    self.assertIn(node.id, ("property", "classmethod"))
                elif isinstance(node.ctx, ast.Load):
                    self.assertIn(node.id, known, node.lineno)
                    self.assertNotEqual(node.id, "_")

    def test_attributes(self):
        kinds = (str, int, list, dict, bytes, set, tuple)
        self.assertFalse(STORED & OWN_METHODS)
        for file in self.each():
            for node in file.of(ast.Attribute):
                self.assertNotIn(node.attr, BARRED)
                self.assertFalse(node.attr.startswith("__"))
                called = isinstance(file.parents[node], ast.Call) and file.parents[node].func is node
                if called:
                    self.assertIn(node.attr, OWN_METHODS | set(METHODS), node.lineno)
                else:
                    self.assertIn(node.attr, STORED | PROPERTIES | {"setter"}, node.lineno)
                if isinstance(node.ctx, ast.Store):
                    self.assertIsInstance(node.value, ast.Name)
        free = {name for kind in kinds for name in dir(kind)} - {"count", "index", "title"}
        self.assertFalse(STORED & free)
        self.assertFalse({name for name in OWN_METHODS | PROPERTIES if not name.startswith("__")} & free)

    def test_what_is_iterated_at_once(self):
        for file in self.each():
            for node in file.of(ast.Call):
                name = node.func.id if isinstance(node.func, ast.Name) else None
                parent = file.parents[node]
                if name in ITERATED_AT_ONCE:
                    in_loop = isinstance(parent, (ast.For, ast.comprehension)) and parent.iter is node
                    taken = isinstance(parent, ast.Call) and isinstance(parent.func, ast.Name) and (
                        parent.func.id in TAKE_ITERATED or (parent.func.id == "reversed" and name == "range"))
                    self.assertTrue(in_loop or taken, node.lineno)
                if name is None and node.func.attr in ("items", "keys", "values"):
                    self.assertIsInstance(parent, (ast.For, ast.comprehension))

    def test_literals(self):
        for file in self.each():
            for node in file.of(ast.Constant):
                self.assertIn(type(node.value), (str, int, bool, type(None)))
                if isinstance(node.value, str):
                    self.assertNotIn("%", node.value)
                    self.assertFalse(node.value.startswith("__") or node.value.endswith(("._", ".__")))
                    if not is_docstring(file, node):
                        self.assertFalse(set(re.findall(r"\w+", node.value)) & (set(WORDS) - {"type"}))

    def test_comparisons_and_raising(self):
        for file in self.each():
            for node in file.of(ast.Compare):
                for sign, right in zip(node.ops, node.comparators):
                    if isinstance(sign, (ast.Is, ast.IsNot)):
                        self.assertTrue(isinstance(right, ast.Constant) and right.value in (None, True, False))
            for node in file.of(ast.Raise):
                self.assertIsInstance(node.exc, ast.Call)
                self.assertIsInstance(node.exc.func, ast.Name)
                self.assertIsNone(node.cause)

    def test_stars_in_calls(self):
        for file in self.each():
            for node in file.of(ast.Call):
                for item in node.args:
                    if isinstance(item, ast.Starred):
                        if isinstance(item.value, ast.Attribute):
                            self.assertNotIn(item.value.attr, PROPERTIES)
                            self.assertIsInstance(item.value.value, ast.Name)
                        else:
                            self.assertIsInstance(item.value, ast.Name)
                for item in node.keywords:
                    if item.arg is None:
                        self.assertIsInstance(item.value, ast.Name)
                        self.assertEqual(len(node.keywords), 1)

    def test_what_a_loop_goes_over_is_not_changed_in_it(self):
        for file in self.each():
            for loop in file.of(ast.For):
                gone = {ast.unparse(item) for item in ast.walk(loop.iter) if isinstance(item, (ast.Name, ast.Attribute))}
                for node in [item for row in loop.body for item in ast.walk(row)]:
                    if isinstance(node, ast.Call) and isinstance(node.func, ast.Attribute):
                        if node.func.attr in ("append", "extend", "pop", "insert", "remove", "clear", "update"):
                            self.assertNotIn(ast.unparse(node.func.value), gone, node.lineno)
                    if isinstance(node, (ast.Attribute, ast.Subscript)) and isinstance(node.ctx, ast.Store):
                        self.assertNotIn(ast.unparse(node), gone)

    def test_the_form_of_operators(self):
        for file in self.each():
            for kind in file.of(ast.ClassDef):
                methods = {node.name: node for node in kind.body if isinstance(node, ast.FunctionDef)}
                if "__getitem__" in methods:
                    self.assertEqual(ast.unparse(methods["__iter__"].body[-1])[:16], "raise TypeError(")
                if "__len__" in methods:
                    self.assertRegex(ast.unparse(methods["__len__"].body[-1]), r"^return len\(self\.[a-z]+\)$")
                for name, arguments in OPERATOR_ARGUMENTS.items():
                    if name in methods:
                        self.assertEqual([item.arg for item in methods[name].args.args], arguments)
                        self.assertEqual(methods[name].args.defaults, [])

    def test_operators_and_what_they_call_change_nothing(self):
        reached = run_by_operators()
        self.assertGreater(len(reached), 12)
        for function in reached:
            lists = [node.targets[0].id for node in ast.walk(function) if isinstance(node, ast.Assign)
                     and isinstance(node.value, (ast.List, ast.ListComp)) and isinstance(node.targets[0], ast.Name)]
            for node in ast.walk(function):
                self.assertNotIsInstance(node, ast.AugAssign, function.name)
                if isinstance(node, (ast.Attribute, ast.Subscript)) and decorators(function) != [function.name + ".setter"]:
                    self.assertIsInstance(node.ctx, ast.Load, function.name)
                if isinstance(node, ast.Call):
                    name = node.func.id if isinstance(node.func, ast.Name) else node.func.attr
                    if name in CHANGING:
                        self.assertIn(node.func.value.id, lists, function.name)

    def test_operators_call_nothing_that_they_are_passed_or_hold(self):
        errors = {kind.name for kind in CLASSES}
        for function in run_by_operators():
            own = {item.arg for item in ast.walk(function) if isinstance(item, ast.arg)}
            own |= {item.id for item in ast.walk(function) if isinstance(item, ast.Name) and isinstance(item.ctx, ast.Store)}
            for node in [item for item in ast.walk(function) if isinstance(item, ast.Call)]:
                if isinstance(node.func, ast.Name):
                    self.assertNotIn(node.func.id, own | STORED, function.name)
                    self.assertIn(node.func.id, errors | set(FUNCTIONS) | set(BUILTINS), function.name)
                else:
                    # What a class stores under the name of a method would be held and called.
                    self.assertNotIn(node.func.attr, STORED, function.name)
                    self.assertIn(node.func.attr, OWN_METHODS | set(METHODS), function.name)

    def test_words_and_escapes(self):
        for file in self.each():
            self.assertNotRegex(file.text, r"dataclass|overload|contextmanager|_wall|\(type\)|Meta|metaclass=")
            for token in tokenize.generate_tokens(io.StringIO(file.text).readline):
                if token.type == tokenize.STRING:
                    self.assertNotRegex(token.string, r"\\[^nt\\\"']")
                    self.assertNotRegex(token.string, r"^[A-Za-z]")
                if token.type == tokenize.NAME:
                    self.assertNotIn(token.string, WORDS)

    def test_tables_are_read_and_not_passed_on(self):
        for file in self.each():
            for node in file.tree.body:
                if isinstance(node, ast.Assign) and isinstance(node.value, (ast.List, ast.Dict)):
                    name = node.targets[0].id
                    for item in file.of(ast.Name):
                        if item.id == name and isinstance(item.ctx, ast.Load):
                            parent = file.parents[item]
                            if isinstance(parent, ast.Attribute):
                                self.assertEqual(parent.attr, "get")
                            else:
                                self.assertIsInstance(parent, (ast.Subscript, ast.Compare))


if __name__ == "__main__":
    unittest.main()
