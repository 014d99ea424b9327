"""The package keeps to its small part of the language, as far as its trees can show it."""

import ast
import builtins
import pathlib
import re
import unittest

PACKAGE = pathlib.Path(__file__).resolve().parent.parent / "roomrights"
FILES = sorted(PACKAGE.glob("*.py"))

STATEMENTS = (
    ast.FunctionDef, ast.ClassDef, ast.Return, ast.Assign, ast.AugAssign, ast.For, ast.While, ast.If, ast.Raise,
    ast.Try, ast.ImportFrom, ast.Expr, ast.Pass, ast.Break, ast.Continue,
)
EXPRESSIONS = (
    ast.BoolOp, ast.BinOp, ast.UnaryOp, ast.Lambda, ast.IfExp, ast.Dict, ast.Set, ast.ListComp, ast.Compare, ast.Call,
    ast.JoinedStr, ast.FormattedValue, ast.Constant, ast.Attribute, ast.Subscript, ast.Name, ast.List, ast.Tuple,
    ast.Slice,
)
OWN_NAMES = (
    "len range enumerate zip min max sum abs sorted reversed int str bool list tuple dict set frozenset isinstance ord"
    " repr any all divmod Exception ValueError TypeError KeyError IndexError LookupError ZeroDivisionError"
    " ArithmeticError OverflowError RuntimeError NotImplementedError AttributeError StopIteration"
).split()
OWN_METHODS = (
    "append clear copy count endswith extend find get index insert isalnum isalpha isdigit islower isspace isupper"
    " items join keys ljust lower lstrip partition pop remove replace reverse rfind rjust rpartition rsplit rstrip"
    " setdefault split splitlines startswith strip update upper values zfill bit_length"
).split()
BARRED_NAMES = (
    "register mro elements open input version_info with_traceback add_note attrgetter breakpoint builtins compile"
    " copyright credits delattr dir eval exec exit gc getattr globals hasattr help id importlib license locals"
    " methodcaller os quit setattr super type vars sys format format_map"
).split()
BARRED_WORDS = (
    "type typing typing_extensions enum Enum IntEnum StrEnum Flag IntFlag Generic Protocol ABC ABCMeta namedtuple"
    " NamedTuple TypedDict TYPE_CHECKING abstractmethod"
).split()
BARRED_PARTS = ("dataclass", "overload", "contextmanager")
OWN_KINDS = (str, int, list, dict, set, bytes)


def trees():
    for file in FILES:
        yield file.name, ast.parse(file.read_text(encoding="utf-8"))


def nodes(sort):
    for name, tree in trees():
        for node in ast.walk(tree):
            if isinstance(node, sort):
                yield name, node


def bound_names(function):
    """The parameters and locals of a def."""
    names = [argument.arg for argument in function.args.args]
    for node in ast.walk(function):
        if isinstance(node, ast.Name) and isinstance(node.ctx, ast.Store):
            names.append(node.id)
    return names


class Language(unittest.TestCase):
    def test_files_and_signs(self):
        for entry in PACKAGE.iterdir():
            if entry.name != "__pycache__":
                self.assertRegex(entry.name, r"^([a-z][a-z0-9_]*|__init__|__main__)\.py$")
                self.assertNotIn(entry.stem, dir(builtins))
        for file in FILES:
            text = file.read_text(encoding="utf-8")
            lines = text.split("\n")
            self.assertRegex(text, r"\A[ -~\n]*\Z", file.name)
            self.assertLessEqual(len(lines), 401, file.name)
            self.assertLessEqual(max(len(line) for line in lines), 120, file.name)

    def test_words_that_stand_nowhere(self):
        for file in FILES:
            text = file.read_text(encoding="utf-8")
            words = re.findall(r"\w+", text)
            for word in BARRED_WORDS:
                self.assertNotIn(word, words, file.name)
            for part in BARRED_PARTS:
                self.assertNotIn(part, text, file.name)

    def test_statements_and_expressions(self):
        for name, node in nodes(ast.stmt):
            self.assertIsInstance(node, STATEMENTS, (name, node.lineno))
        for name, node in nodes(ast.expr):
            self.assertIsInstance(node, EXPRESSIONS, (name, node.lineno))
        for name, node in nodes((ast.For, ast.While)):
            self.assertEqual(node.orelse, [], (name, node.lineno))
        for name, node in nodes(ast.Assign):
            self.assertEqual(len(node.targets), 1, (name, node.lineno))
            self.assertNotIsInstance(node.targets[0], (ast.Tuple, ast.List), (name, node.lineno))
        for name, node in nodes(ast.ListComp):
            self.assertEqual(len(node.generators), 1, (name, node.lineno))
            self.assertLessEqual(len(node.generators[0].ifs), 1, (name, node.lineno))
        for name, node in nodes(ast.BinOp):
            self.assertNotIsInstance(node.op, (ast.Div, ast.MatMult, ast.Pow), (name, node.lineno))
        for name, node in nodes(ast.Constant):
            self.assertIsInstance(node.value, (int, str, type(None)), (name, node.lineno))

    def test_imports(self):
        drawn = {}
        for name, tree in trees():
            drawn[name[:-3]] = []
            for node in ast.walk(tree):
                if isinstance(node, ast.ImportFrom):
                    self.assertIn(node, tree.body, name)
                    self.assertRegex(node.module, r"^roomrights\.[a-z]+$", name)
                    self.assertEqual([alias.asname for alias in node.names], [None] * len(node.names), name)
                    drawn[name[:-3]].append(node.module.split(".")[1])
        while drawn:
            free = [name for name in drawn if not any(other in drawn for other in drawn[name])]
            self.assertNotEqual(free, [], "files draw from one another")
            for name in free:
                drawn.pop(name)

    def test_imports_come_from_the_file_that_defines_the_name(self):
        defined = {}
        for name, tree in trees():
            defined[name[:-3]] = [node.name for node in tree.body if hasattr(node, "name")]
            for node in tree.body:
                if isinstance(node, ast.Assign):
                    defined[name[:-3]].append(node.targets[0].id)
        for name, node in nodes(ast.ImportFrom):
            for alias in node.names:
                self.assertIn(alias.name, defined[node.module.split(".")[1]], name)

    def test_functions_and_classes(self):
        for name, node in nodes(ast.FunctionDef):
            place = (name, node.name)
            self.assertLessEqual(node.end_lineno - node.lineno + 1, 40, place)
            self.assertEqual(node.decorator_list, [], place)
            self.assertEqual((node.args.vararg, node.args.kwarg, node.args.kwonlyargs), (None, None, []), place)
            self.assertIsNotNone(ast.get_docstring(node) if node.name != "__init__" else "", place)
        for name, node in nodes(ast.ClassDef):
            self.assertEqual(node.decorator_list, [], node.name)
            self.assertLessEqual(len(node.bases), 1, node.name)
            for part in node.body:
                self.assertIsInstance(part, (ast.FunctionDef, ast.Expr), node.name)
            methods = [part.name for part in node.body if isinstance(part, ast.FunctionDef)]
            self.assertEqual(len(methods), len(set(methods)), node.name)

    def test_names(self):
        for name, node in nodes((ast.Name, ast.Attribute, ast.arg, ast.FunctionDef, ast.ClassDef)):
            word = getattr(node, "id", None) or getattr(node, "attr", None) or getattr(node, "arg", None) or node.name
            if word != "__init__":
                self.assertRegex(word, r"^[A-Za-z][A-Za-z0-9_]*$", name)
                self.assertNotIn(word, BARRED_NAMES, name)
            if isinstance(node, ast.Name) and word in dir(builtins):
                self.assertIn(word, OWN_NAMES, name)
                self.assertIsInstance(node.ctx, ast.Load, (name, word))

    def test_locals_have_names_of_their_own(self):
        for name, tree in trees():
            barred = list(dir(builtins))
            for node in tree.body:
                if isinstance(node, ast.ImportFrom):
                    barred.extend(alias.name for alias in node.names)
                elif isinstance(node, ast.ClassDef):
                    barred.append(node.name)
            for node in ast.walk(tree):
                if isinstance(node, ast.FunctionDef):
                    for word in bound_names(node):
                        self.assertNotIn(word, barred, (name, node.name))

    def test_methods_and_values_of_objects(self):
        methods = set()
        values = set()
        for name, node in nodes(ast.ClassDef):
            methods.update(part.name for part in node.body if isinstance(part, ast.FunctionDef))
        for name, node in nodes(ast.Attribute):
            if isinstance(node.ctx, ast.Store):
                self.assertIsInstance(node.value, ast.Name, (name, node.lineno))
                values.add(node.attr)
        self.assertEqual(methods & values, set())
        for word in sorted(methods | values):
            if word != "__init__":
                self.assertFalse(any(hasattr(kind, word) for kind in OWN_KINDS), word)
        for name, node in nodes(ast.Call):
            if isinstance(node.func, ast.Attribute) and node.func.attr not in methods:
                self.assertIn(node.func.attr, OWN_METHODS, (name, node.lineno))

    def test_the_top_of_a_module(self):
        for name, tree in trees():
            self.assertIsNotNone(ast.get_docstring(tree), name)
            bound = []
            for node in tree.body[1:]:
                self.assertIsInstance(node, (ast.ImportFrom, ast.FunctionDef, ast.ClassDef, ast.Assign), name)
                if isinstance(node, ast.Assign):
                    bound.append(node.targets[0].id)
                elif not isinstance(node, ast.ImportFrom):
                    bound.append(node.name)
            self.assertEqual(len(bound), len(set(bound)), name)


if __name__ == "__main__":
    unittest.main()
