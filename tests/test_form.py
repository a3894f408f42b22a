"""The form of the code: the rules of the narrow Python that a reader of the source can check."""

import ast
import builtins
import re
import unittest
from pathlib import Path

import blindweirs

PACKAGE = Path(blindweirs.__file__).parent
BUILTINS = {"len", "range", "enumerate", "zip", "min", "max", "sum", "abs", "sorted", "reversed", "int", "str", "bool",
            "list", "tuple", "dict", "set", "isinstance", "ord", "repr", "any", "all", "divmod", "ValueError",
            "TypeError", "KeyError", "super", "property", "NotImplemented"}
METHODS = {"append", "clear", "copy", "count", "endswith", "extend", "find", "get", "index", "insert", "isalnum",
           "isalpha", "isdigit", "islower", "isspace", "isupper", "items", "join", "keys", "ljust", "lower", "lstrip",
           "partition", "pop", "remove", "replace", "reverse", "rfind", "rjust", "rpartition", "rsplit", "rstrip",
           "setdefault", "split", "splitlines", "startswith", "strip", "update", "upper", "values", "zfill",
           "bit_length", "add", "discard", "isascii"}
SPECIAL = {"__init__", "__eq__", "__len__", "__enter__", "__exit__", "__or__", "__iter__"}
OPERATORS = ("__eq__", "__or__", "__len__")
RUN_BY_OPERATORS = {"sums.py": ("_needed", "_has_part", "_is_sum", "_is_drop")}
WORDS = re.compile(r"\b(type|typing|enum|Enum|Flag|Generic|Protocol|ABC|namedtuple|NamedTuple|TypedDict|register|mro|"
                   r"elements|open|input|law|eval|exec|getattr|setattr|hasattr|globals|locals|vars|_wall\w*)\b")
BARRED = (ast.Global, ast.AsyncFunctionDef, ast.AsyncFor, ast.AsyncWith, ast.Await, ast.Import, ast.Div,
          ast.GeneratorExp, ast.Set, ast.MatMult, ast.Yield, ast.YieldFrom)


def sources():
    return {path.name: path.read_text() for path in sorted(PACKAGE.glob("*.py"))}


def trees():
    return {name: ast.parse(text) for name, text in sources().items()}


def nodes(tree, kind):
    return [node for node in ast.walk(tree) if isinstance(node, kind)]


def docstrings(tree):
    owners = nodes(tree, (ast.Module, ast.ClassDef, ast.FunctionDef))
    return [node.body[0].value for node in owners if ast.get_docstring(node) is not None]


def assigned(function):
    names = [argument.arg for argument in [*function.args.args, *function.args.kwonlyargs]]
    names += [node.id for node in ast.walk(function) if isinstance(node, ast.Name) and isinstance(node.ctx, ast.Store)]
    return names


class FormTest(unittest.TestCase):
    def test_files(self):
        self.assertEqual({path.suffix for path in PACKAGE.iterdir() if path.name != "__pycache__"}, {".py"})
        for name, text in sources().items():
            self.assertRegex(name, r"^[a-z_]+\.py$")
            self.assertEqual(set(re.findall(r"[^ -~\n]", text)), set(), name)
            self.assertLessEqual(len(text.splitlines()), 399, name)
            self.assertLessEqual(max(map(len, text.splitlines())), 120, name)

    def test_functions_are_short_and_plain(self):
        for name, tree in trees().items():
            for function in nodes(tree, ast.FunctionDef):
                self.assertLessEqual(function.end_lineno - function.lineno + 1, 40, (name, function.name))
                for decorator in function.decorator_list:
                    self.assertEqual(ast.unparse(decorator), "property")
                if function.name.startswith("__"):
                    self.assertIn(function.name, SPECIAL)

    def test_no_barred_statements(self):
        for name, tree in trees().items():
            for node in ast.walk(tree):
                self.assertNotIsInstance(node, BARRED, (name, getattr(node, "lineno", None)))
                if isinstance(node, ast.Compare):
                    for sign, side in zip(node.ops, node.comparators):
                        if isinstance(sign, (ast.Is, ast.IsNot)):
                            self.assertIn(ast.unparse(side), ("None", "True", "False"))
                if isinstance(node, ast.Constant):
                    self.assertNotIsInstance(node.value, (float, complex))

    def test_module_level(self):
        for name, tree in trees().items():
            for node in tree.body:
                self.assertIsInstance(node, (ast.Expr, ast.ImportFrom, ast.Assign, ast.FunctionDef, ast.ClassDef), name)
                if isinstance(node, ast.Assign) and not self.is_table_of_functions(tree, node):
                    ast.literal_eval(node.value)

    def is_table_of_functions(self, tree, assignment):
        """Whether a dict of functions is assigned that are defined above it."""
        if not isinstance(assignment.value, ast.Dict):
            return False
        above = [node.name for node in tree.body if isinstance(node, ast.FunctionDef) and node.lineno < assignment.lineno]
        return all(isinstance(value, ast.Name) and value.id in above for value in assignment.value.values)

    def test_names(self):
        for name, tree in trees().items():
            imported = [alias.name for node in nodes(tree, ast.ImportFrom) for alias in node.names]
            tops = [node.name for node in tree.body if isinstance(node, (ast.FunctionDef, ast.ClassDef))]
            self.assertEqual(len(set(imported + tops)), len(imported + tops), name)
            for node in nodes(tree, ast.ImportFrom):
                self.assertTrue(all(alias.asname is None for alias in node.names))
            for function in nodes(tree, ast.FunctionDef):
                for word in assigned(function):
                    self.assertFalse(hasattr(builtins, word), (name, function.name, word))
                    self.assertNotIn(word, imported + tops, (name, function.name))
                    self.assertRegex(word, r"^(_|_?[a-z][a-z0-9_]*)$")
            for node in nodes(tree, ast.Name):
                if node.id == "_":
                    self.assertIsInstance(node.ctx, ast.Store)
                if hasattr(builtins, node.id):
                    self.assertIn(node.id, BUILTINS, name)

    def test_imports_are_used(self):
        for name, tree in trees().items():
            read = {node.id for node in nodes(tree, ast.Name)}
            for node in nodes(tree, ast.ImportFrom):
                for alias in node.names:
                    self.assertIn(alias.name, read, name)
                    home = ast.parse((PACKAGE / f"{node.module.split('.')[1]}.py").read_text()).body
                    defined = [part.name for part in home if isinstance(part, (ast.FunctionDef, ast.ClassDef))]
                    defined += [part.targets[0].id for part in home if isinstance(part, ast.Assign)]
                    self.assertIn(alias.name, defined, name)

    def test_private_functions_are_used(self):
        for name, text in sources().items():
            for node in ast.parse(text).body:
                if isinstance(node, ast.FunctionDef) and node.name.startswith("_"):
                    self.assertGreater(len(re.findall(rf"\b{node.name}\b", text)), 1, (name, node.name))

    def test_methods(self):
        own = {node.name for tree in trees().values() for made in nodes(tree, ast.ClassDef) for node in made.body
               if isinstance(node, ast.FunctionDef)}
        for name, tree in trees().items():
            for call in nodes(tree, ast.Call):
                if isinstance(call.func, ast.Attribute):
                    self.assertIn(call.func.attr, METHODS | own, name)

    def test_own_errors_are_caught_by_name(self):
        defined = [node.name for node in trees()["errors.py"].body if isinstance(node, ast.ClassDef)]
        for name, tree in trees().items():
            for node in nodes(tree, ast.Try):
                self.assertEqual((node.finalbody, node.orelse), ([], []), name)
                for handler in node.handlers:
                    self.assertIn(ast.unparse(handler.type), defined, name)
                    self.assertIsNone(handler.name, name)
            for node in nodes(tree, ast.Raise):
                self.assertIsInstance(node.exc, ast.Call, name)
                self.assertIn(ast.unparse(node.exc.func), defined, name)

    def test_a_name_is_one_kind_of_thing_in_classes(self):
        methods, properties, attributes = {}, {}, {}
        for name, tree in trees().items():
            for made in nodes(tree, ast.ClassDef):
                for node in made.body:
                    if isinstance(node, ast.FunctionDef):
                        (properties if node.decorator_list else methods)[node.name] = (name, made.name)
            for node in nodes(tree, ast.Attribute):
                if isinstance(node.ctx, ast.Store):
                    attributes[node.attr] = name
                    self.assertIsInstance(node.value, ast.Name, name)
                self.assertNotIsInstance(node.ctx, ast.Del, name)
        self.assertEqual(set(methods) & set(properties), set())
        self.assertEqual(set(methods) & set(attributes), set())
        self.assertEqual(set(properties) & set(attributes), set())
        self.assertEqual(set(properties) & METHODS, set())
        self.assertEqual(set(attributes) & METHODS, set())
        for name, tree in trees().items():
            for node in nodes(tree, ast.Attribute):
                if node.attr not in METHODS and not node.attr.startswith("__"):
                    self.assertIn(node.attr, {**methods, **properties, **attributes}, name)

    def test_operators_and_properties_change_nothing(self):
        for name, tree in trees().items():
            for function in nodes(tree, ast.FunctionDef):
                if function.decorator_list or function.name in OPERATORS + RUN_BY_OPERATORS.get(name, ()):
                    created = [node.targets[0].id for node in nodes(function, ast.Assign)
                               if isinstance(node.value, (ast.List, ast.ListComp))]
                    for node in nodes(function, (ast.Attribute, ast.Subscript)):
                        self.assertIsInstance(node.ctx, ast.Load, (name, function.name))
                    self.assertEqual(nodes(function, (ast.AugAssign, ast.Delete)), [])
                    for call in nodes(function, ast.Call):
                        if isinstance(call.func, ast.Attribute) and call.func.attr in ("append", "extend", "pop", "update", "clear"):
                            self.assertIn(ast.unparse(call.func.value), created, (name, function.name))

    def test_what_ends_a_block(self):
        found = [node for tree in trees().values() for node in nodes(tree, ast.FunctionDef) if node.name == "__exit__"]
        self.assertEqual(len(found), 1)
        for node in ast.walk(ast.Module(found[0].body, [])):
            self.assertIsInstance(node, (ast.Module, ast.If, ast.Compare, ast.IsNot, ast.Constant, ast.Assign, ast.Attribute,
                                         ast.Name, ast.Load, ast.Store))

    def test_strings(self):
        for name, tree in trees().items():
            documented = [id(node) for node in docstrings(tree)]
            for node in nodes(tree, ast.Constant):
                if isinstance(node.value, str):
                    self.assertNotIn("%", node.value, name)
                    if id(node) not in documented:
                        self.assertIsNone(WORDS.search(node.value), name)
            for node in nodes(tree, (ast.Name, ast.arg, ast.Attribute)):
                word = getattr(node, "id", None) or getattr(node, "arg", None) or getattr(node, "attr", None)
                self.assertIsNone(WORDS.fullmatch(word), name)

    def test_sets_stand_where_they_may(self):
        for name, tree in trees().items():
            outer = {id(call.args[0]): call.func.id for call in nodes(tree, ast.Call)
                     if isinstance(call.func, ast.Name) and call.args}
            for call in nodes(tree, ast.Call):
                if isinstance(call.func, ast.Name) and call.func.id == "set":
                    self.assertIn(outer.get(id(call)), ("len", "sorted"), name)
