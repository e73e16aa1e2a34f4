"""Reads off the package that its operators and properties change nothing (../shared/LANGUAGE.md, L5 and L28).

Functions and methods are told apart by their names alone, as the rule has it: what one of them does, all of this name
may do.
"""

import ast
import builtins
import pathlib
import unittest

import alldiffs

NO_OPERATORS = ("__init__", "__enter__", "__exit__", "__iter__", "__call__")
CHANGING = (
    "append", "clear", "extend", "insert", "pop", "remove", "reverse", "setdefault", "update", "sort", "add", "discard",
)
BUILTIN_METHODS = {name for kind in (str, bytes, int, list, tuple, dict, set) for name in dir(kind)}


def decorators(function):
    return [ast.unparse(decorator) for decorator in function.decorator_list]


def is_literal_number(node):
    return isinstance(node, ast.Constant) and isinstance(node.value, int)


def is_new(value):
    """Whether this makes a list or a dict of which the rule says that a function creates it itself."""
    if isinstance(value, ast.Call):
        return ast.unparse(value.func) in ("list", "dict", "sorted")
    return isinstance(value, (ast.List, ast.ListComp, ast.Dict))


def own_names(function):
    """The local variables that are assigned nothing but what the function creates itself."""
    values = {}
    for node in ast.walk(function):
        if isinstance(node, ast.Assign):
            for target in node.targets:
                values.setdefault(ast.unparse(target), []).append(node.value)
    names = [argument.arg for argument in ast.walk(function.args) if isinstance(argument, ast.arg)]
    return {name for name in values if name not in names and all(is_new(value) for value in values[name])}


def changed_by(node, own):
    """What a single part of a function changes, None for nothing."""
    if isinstance(node, ast.AugAssign) and not (isinstance(node.target, ast.Name) and is_literal_number(node.value)):
        return ast.unparse(node)
    if isinstance(node, (ast.Attribute, ast.Subscript)) and not isinstance(node.ctx, ast.Load):
        is_own_item = isinstance(node, ast.Subscript) and ast.unparse(node.value) in own
        return None if is_own_item else ast.unparse(node)
    if isinstance(node, ast.Call) and isinstance(node.func, ast.Attribute) and node.func.attr in CHANGING:
        is_own_list = ast.unparse(node.func.value) in own and node.func.attr not in ("sort", "add", "discard")
        return None if is_own_list else ast.unparse(node)
    return None


class Sources:
    """The functions, methods and properties of some files, by their names."""

    def __init__(self, texts):
        self.callables, self.properties, self.operators = {}, {}, {}
        for text in texts:
            for node in ast.parse(text).body:
                if isinstance(node, ast.FunctionDef):
                    self.callables.setdefault(node.name, []).append((node.name, node))
                elif isinstance(node, ast.ClassDef):
                    self.take_class(node)

    def take_class(self, made):
        for method in made.body:
            if isinstance(method, ast.FunctionDef):
                self.take_method(made, method, f"{made.name}.{method.name}")

    def take_method(self, made, method, title):
        if "property" in decorators(method):
            self.properties.setdefault(method.name, []).append((title, method))
            self.operators[title] = method
        elif method.name == "__init__":
            # What an error class keeps is kept by the error that is raised.
            self.callables.setdefault(made.name, []).extend([] if made.bases else [(title, method)])
        elif method.name.startswith("__") and method.name not in NO_OPERATORS:
            self.operators[title] = method
        elif f"{method.name}.setter" not in decorators(method):
            self.callables.setdefault(method.name, []).append((title, method))

    def led_to(self, function):
        """The functions, methods and properties that a function calls or reads, each with its title."""
        for node in ast.walk(function):
            if isinstance(node, ast.Call):
                yield from self.callables.get(ast.unparse(node.func).split(".")[-1], [])
            if isinstance(node, ast.Attribute):
                yield from self.properties.get(node.attr, [])

    def is_strange(self, called):
        """Whether a call is of something that the function is passed or holds."""
        if isinstance(called, ast.Attribute):
            return called.attr not in self.callables and called.attr not in BUILTIN_METHODS
        name = ast.unparse(called)
        return name not in self.callables and not hasattr(builtins, name)

    def faults_in(self, function):
        own = own_names(function)
        changes = [changed_by(node, own) for node in ast.walk(function)]
        calls = [node.func for node in ast.walk(function) if isinstance(node, ast.Call)]
        return [told for told in changes if told] + [ast.unparse(called) for called in calls if self.is_strange(called)]

    def faults(self, title):
        """What an operator or a property changes, or calls though it may not, and by what row of calls it does so."""
        reached, waiting, found = {}, [((title,), self.operators[title])], []
        while waiting:
            row, function = waiting.pop()
            if function not in reached:
                reached[function] = True
                found.extend((*row, fault) for fault in self.faults_in(function))
                waiting.extend(((*row, other), further) for other, further in self.led_to(function))
        return found


BOX = """
class Box:
    def __init__(self, rows):
        self.rows = rows

    def __contains__(self, value):
        {}

    def told(self):
        {}
"""
SHELF = """
class Shelf:
    def __init__(self):
        self.kept = {}

    def told(self):
        self.kept[0] = 1
        return self.kept

    @property
    def last(self):
        return self.kept[0]
"""


class OperatorsTest(unittest.TestCase):
    def test_operators_of_the_package_change_nothing(self):
        files = sorted(pathlib.Path(alldiffs.__file__).parent.glob("*.py"))
        sources = Sources([file.read_text(encoding="utf-8") for file in files])
        self.assertGreater(len(sources.operators), 40)
        self.assertIn("Settling.__contains__", sources.operators)
        for title in sources.operators:
            self.assertEqual([], sources.faults(title))

    def test_faults_are_found(self):
        for row, fault in (
            ("self.many = 1", "self.many"), ("self.rows[0] = 1", "self.rows[0]"), ("self.rows.append(1)", "self.rows.append(1)"),
            ("value += self.rows", "value += self.rows"), ("del self.rows[0]", "self.rows[0]"), ("value(1)", "value"),
            ("self.asks(1)", "self.asks"), ("xs = [1]; xs.sort()", "xs.sort()"), ("xs = self.rows; xs[0] = 1", "xs[0]"),
        ):
            sources = Sources([BOX.format(row, "return 1")])
            self.assertEqual([("Box.__contains__", fault)], sources.faults("Box.__contains__"))
            sources = Sources([BOX.format("return self.told()", row)])
            self.assertEqual([("Box.__contains__", "Box.told", fault)], sources.faults("Box.__contains__"))

    def test_a_method_of_the_same_name_in_another_class(self):
        sources = Sources([BOX.format("return value in self.told()", "return self.rows"), SHELF])
        self.assertEqual([("Box.__contains__", "Shelf.told", "self.kept[0]")], sources.faults("Box.__contains__"))
        self.assertEqual([], sources.faults("Shelf.last"))
        sources = Sources([BOX.format("return Shelf()", "return 1"), SHELF])
        self.assertEqual([("Box.__contains__", "Shelf.__init__", "self.kept")], sources.faults("Box.__contains__"))

    def test_what_a_function_creates_itself_may_change(self):
        for row in ("xs = [1]; xs.append(2); return xs", "xs = sorted(self.rows); xs[0] = 1", "k = 0; k += 1", "return len(value)"):
            sources = Sources([BOX.format(row, "return 1")])
            self.assertEqual([], sources.faults("Box.__contains__"))


if __name__ == "__main__":
    unittest.main()
