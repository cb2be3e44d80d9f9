"""The form of the code: those rules of the language that a short look can check."""

import ast
import builtins
import unittest
from collections import defaultdict, deque
from pathlib import Path

PACKAGE = Path(__file__).resolve().parent.parent / "lossway"
DECORATORS = ("property", "staticmethod", "classmethod")
ARITHMETIC = ("add", "sub", "mul", "floordiv", "mod", "and", "or", "xor", "lshift", "rshift")
OPERATORS = (
    "init", "eq", "repr", "str", "len", "enter", "exit", "call", "iter", "lt", "le", "gt", "ge", "ne", "pow", "ipow",
    "neg", "pos", "invert", "abs", "bool", "contains", "getitem", "setitem",
    *ARITHMETIC, *["r" + word for word in ARITHMETIC], *["i" + word for word in ARITHMETIC],
)
BUILTINS = (
    "len", "range", "enumerate", "zip", "min", "max", "sum", "abs", "sorted", "reversed", "int", "str", "bool",
    "list", "tuple", "dict", "set", "isinstance", "ord", "repr", "any", "all", "divmod", "pow", "getattr", "hasattr",
    "setattr", "iter", "next", "map", "type", "Exception", "ValueError", "TypeError", "KeyError", "IndexError",
    "LookupError", "ZeroDivisionError", "ArithmeticError", "OverflowError", "RuntimeError", "NotImplementedError",
    "AttributeError", "StopIteration", "NotImplemented", "property", "staticmethod", "classmethod", "super",
)
LIBRARY = {
    "heapq": ("heappush", "heappop", "heapify", "heapreplace", "heappushpop"),
    "math": ("gcd", "lcm", "isqrt", "comb", "perm", "factorial"),
    "itertools": ("product", "combinations", "permutations", "chain", "accumulate", "pairwise", "islice",
                  "zip_longest"),
    "collections": ("defaultdict", "deque"),
}
METHODS = (
    "append", "clear", "copy", "count", "endswith", "extend", "find", "get", "index", "insert", "isalnum", "isalpha",
    "isdigit", "islower", "isspace", "isupper", "items", "join", "keys", "ljust", "lower", "lstrip", "partition", "pop",
    "remove", "replace", "reverse", "rfind", "rjust", "rpartition", "rsplit", "rstrip", "setdefault", "split",
    "splitlines", "startswith", "strip", "update", "upper", "values", "zfill", "bit_length", "title", "capitalize",
    "swapcase", "casefold", "center", "expandtabs", "removeprefix", "removesuffix", "rindex", "isascii", "isdecimal",
    "isnumeric", "istitle", "isidentifier", "isprintable",
)
# The kinds of builtin values. Generators are left out, as nothing in the language can be asked of one by a name.
VALUES = (
    str, int, bool, bytes, list, tuple, dict, set, frozenset, range, slice, None.__class__, {}.keys().__class__,
    {}.values().__class__, {}.items().__class__, deque, defaultdict, enumerate, zip, reversed, map,
)
BARRED = (ast.AsyncFunctionDef, ast.AsyncFor, ast.AsyncWith, ast.Await, ast.Div, ast.MatMult, ast.TryStar)


def files():
    return sorted(PACKAGE.glob("*.py"))


def trees():
    return [(path.name, ast.parse(path.read_text(encoding="utf-8"))) for path in files()]


def nodes(kind):
    return [(name, node) for name, tree in trees() for node in ast.walk(tree) if isinstance(node, kind)]


def parts(node, kind):
    """What stands directly in a file or in a class."""
    return [part for part in node.body if isinstance(part, kind)]


def file_of(node):
    """The file from which an import imports."""
    return node.module.partition(".")[2] + ".py"


def is_stored(node):
    return isinstance(node.ctx, ast.Store)


def attributes():
    """The names of all attributes that some line of the package assigns."""
    return {node.attr for _, node in nodes(ast.Attribute) if isinstance(node.ctx, ast.Store)}


def handed_on(tree, held=()):
    """The lines and names of what is read off an object without a call by a name that a builtin value has.

    `held` are the names of attributes, which are no methods.
    """
    names = {name for kind in VALUES for name in dir(kind)} - set(held)
    called = {id(node.func) for node in ast.walk(tree) if isinstance(node, ast.Call)}
    read = [node for node in ast.walk(tree) if isinstance(node, ast.Attribute) and isinstance(node.ctx, ast.Load)]
    return [(node.lineno, node.attr) for node in read if id(node) not in called and node.attr in names]


def definitions():
    """The functions by their names, and the classes by theirs."""
    functions = {}
    for _, node in nodes(ast.FunctionDef):
        functions.setdefault(node.name, []).append(node)
    return functions, {node.name: node for _, node in nodes(ast.ClassDef)}


def is_quiet_root(node):
    """True for a property and for a double-underscore method that changes nothing."""
    marks = [mark.id for mark in node.decorator_list if isinstance(mark, ast.Name)]
    return "property" in marks or node.name.startswith("__") and node.name != "__init__"


def called_by(function):
    """The calls of bare names and those behind a dot."""
    calls = [node.func for node in ast.walk(function) if isinstance(node, ast.Call)]
    names = [node.id for node in calls if isinstance(node, ast.Name)]
    return names, [node.attr for node in calls if isinstance(node, ast.Attribute)]


def quiet_functions():
    """All that the properties and the double-underscore methods run, as far as names tell."""
    functions, classes = definitions()
    found = [node for _, part in nodes(ast.ClassDef) for node in part.body
             if isinstance(node, ast.FunctionDef) and is_quiet_root(node)]
    for function in found:
        names, methods = called_by(function)
        reached = [node for name in names + methods for node in functions.get(name, [])]
        makers = [node for name in names if name in classes for node in classes[name].body
                  if isinstance(node, ast.FunctionDef) and node.name == "__init__"]
        found.extend([node for node in reached + makers if node not in found])
    return found


class FormTest(unittest.TestCase):
    def test_the_folder_holds_plain_files_alone(self):
        names = [path.name for path in PACKAGE.iterdir() if path.name != "__pycache__"]
        self.assertEqual(sorted(names), [path.name for path in files()])
        self.assertIn("__init__.py", names)
        for name in names:
            self.assertRegex(name, r"\A[a-z_][a-z0-9_]*\.py\Z")

    def test_lines_and_characters(self):
        for path in files():
            text = path.read_text(encoding="utf-8")
            lines = text.splitlines()
            self.assertLessEqual(len(lines), 399, path.name)
            self.assertLessEqual(max([len(line) for line in lines]), 120, path.name)
            self.assertEqual([c for c in text if c != "\n" and not " " <= c <= "~"], [], path.name)

    def test_functions_are_small(self):
        for name, node in nodes(ast.FunctionDef):
            self.assertLessEqual(node.end_lineno - node.lineno + 1, 40, (name, node.name))

    def test_imports_name_the_package_or_the_allowed_library(self):
        self.assertEqual(nodes(ast.Import), [])
        for name, node in nodes(ast.ImportFrom):
            words = [alias.name for alias in node.names]
            if node.module in LIBRARY:
                self.assertEqual([word for word in words if word not in LIBRARY[node.module]], [], name)
            else:
                folder, _, rest = node.module.partition(".")
                self.assertEqual((node.level, folder), (0, "lossway"), name)
                self.assertTrue((PACKAGE / (rest + ".py")).is_file(), name)
                self.assertNotIn("*", words, name)

    def test_module_level_holds_no_code(self):
        for name, tree in trees():
            for node in tree.body:
                if not (isinstance(node, ast.Expr) and isinstance(node.value, ast.Constant)):
                    self.assertIsInstance(node, (ast.ImportFrom, ast.FunctionDef, ast.ClassDef, ast.Assign), name)

    def test_only_the_allowed_decorators_and_operators(self):
        for name, node in nodes((ast.FunctionDef, ast.ClassDef)):
            for mark in node.decorator_list:
                setter = isinstance(mark, ast.Attribute) and mark.attr == "setter"
                self.assertTrue(setter or mark.id in DECORATORS, (name, node.name))
            if node.name.startswith("__"):
                self.assertIn(node.name.strip("_"), OPERATORS, name)

    def test_only_the_allowed_builtins(self):
        for name, node in nodes(ast.Name):
            if node.id in vars(builtins):
                self.assertIn(node.id, BUILTINS, (name, node.lineno))

    def test_what_operators_and_properties_run_calls_no_attribute(self):
        held = attributes()
        self.assertIn("join", held)
        self.assertIn("__str__", [function.name for function in quiet_functions()])
        for function in quiet_functions():
            _, methods = called_by(function)
            self.assertEqual([name for name in methods if name in held], [], function.name)

    def test_what_operators_and_properties_run_changes_nothing(self):
        for function in quiet_functions():
            changed = [node for node in ast.walk(function)
                       if isinstance(node, ast.Attribute) and isinstance(node.ctx, (ast.Store, ast.Del))]
            self.assertEqual([node.attr for node in changed if function.name != "__init__"], [], function.name)

    def test_no_variable_has_the_name_of_a_class_or_an_import_of_its_file(self):
        for name, tree in trees():
            taken = {alias.name for node in parts(tree, ast.ImportFrom) for alias in node.names}
            taken |= {node.name for node in parts(tree, ast.ClassDef)} | set(vars(builtins))
            named = [node.arg for node in ast.walk(tree) if isinstance(node, ast.arg)]
            named += [node.id for node in ast.walk(tree) if isinstance(node, ast.Name) and is_stored(node)]
            self.assertEqual([word for word in named if word in taken], [], name)

    def test_what_is_imported_is_used_and_defined_there(self):
        defined = {}
        for name, tree in trees():
            defined[name] = {node.name for node in parts(tree, (ast.FunctionDef, ast.ClassDef))}
            defined[name] |= {node.targets[0].id for node in parts(tree, ast.Assign)}
        for name, tree in trees():
            used = {node.id for node in ast.walk(tree) if isinstance(node, ast.Name)}
            for node in parts(tree, ast.ImportFrom):
                words = {alias.name for alias in node.names}
                self.assertLessEqual(words, used, name)
                if node.module not in LIBRARY:
                    self.assertLessEqual(words, defined[file_of(node)], name)

    def test_no_file_imports_itself_through_others(self):
        imported = {name: [file_of(node) for node in parts(tree, ast.ImportFrom)] for name, tree in trees()}
        for name, files_of_it in imported.items():
            reached = list(files_of_it)
            for other in reached:
                reached.extend([more for more in imported.get(other, []) if more not in reached])
            self.assertNotIn(name, reached)

    def test_methods_and_attributes_have_unequal_names(self):
        methods = set()
        for _, node in nodes(ast.ClassDef):
            for part in parts(node, ast.FunctionDef):
                if not [mark for mark in part.decorator_list if getattr(mark, "id", "") not in DECORATORS[1:]]:
                    methods.add(part.name)
        self.assertEqual(methods & attributes(), set())

    def test_attributes_that_are_read_are_assigned(self):
        functions, _ = definitions()
        values = {part.targets[0].id for _, node in nodes(ast.ClassDef) for part in parts(node, ast.Assign)}
        known = attributes() | set(functions) | values | set(METHODS) | {"setter"}
        for name, node in nodes(ast.Attribute):
            self.assertIn(node.attr, known, (name, node.lineno))

    def test_no_method_with_the_name_of_a_builtin_value_is_handed_on(self):
        held = attributes()
        for name, tree in trees():
            self.assertEqual(handed_on(tree, held), [], name)

    def test_a_method_that_is_handed_on_is_found(self):
        for name in ("start", "stop", "step", "count", "index", "copy", "real", "pop", "append", "join", "keys"):
            for line in (
                "f = box.{0}", "f = box.inner.{0}", "rows = [1, box.{0}]", "rows = (box.{0},)",
                "rows = {{'a': box.{0}}}", "use(box.{0})", "use(key=box.{0})", "use(*box.{0})",
                "box.held = box.{0}", "box.{0} == None", "box.{0}.other()", "rows[0].{0}[1]",
                "def use():\n    return box.{0}", "f = lambda: box.{0}", "[box.{0} for box in boxes]", "f'{{box.{0}}}'",
                "if box.{0}:\n    pass",
            ):
                found = handed_on(ast.parse(line.format(name)))
                self.assertEqual([word for _, word in found], [name], line)

    def test_it_is_found_among_methods_that_may_be_handed_on(self):
        source = "def call(station):\n    return {\n'listen': station.listen,\n'start': station.start,\n}"
        self.assertEqual(handed_on(ast.parse(source), attributes()), [(4, "start")])
        self.assertEqual(handed_on(ast.parse(source.replace("station.start", "station.crash")), attributes()), [])

    def test_what_may_be_read_is_not_found(self):
        for line in ("box.start()", "f = box.start()", "box.inner.start(1)", "f = box.listen", "start = stop",
                     "use(start=1)", "'box.start'", "box.rows.append(box.count(1))", "box.start = 1"):
            self.assertEqual(handed_on(ast.parse(line)), [], line)
        self.assertEqual(handed_on(ast.parse("f = box.join"), ["join"]), [])

    def test_generators_have_names_of_their_own(self):
        functions, _ = definitions()
        for name, rows in functions.items():
            yields = [node for row in rows for node in ast.walk(row) if isinstance(node, (ast.Yield, ast.YieldFrom))]
            self.assertTrue(len(yields) == 0 or len(rows) == 1, name)

    def test_lines_as_text_are_f_strings(self):
        for name, node in nodes(ast.FunctionDef):
            if node.name in ("__str__", "__repr__"):
                returned = node.body[-1].value
                self.assertIsInstance(returned, ast.JoinedStr, name)
                self.assertEqual(returned.lineno, returned.end_lineno, name)

    def test_what_the_language_does_not_have(self):
        self.assertEqual([(name, node) for name, node in nodes(BARRED)], [])
        for name, node in nodes(ast.Constant):
            self.assertNotIsInstance(node.value, (float, complex), name)


if __name__ == "__main__":
    unittest.main()
