"""The package keeps to the small part of Python in which it is to be written (the rules that can be seen here)."""

import ast
import builtins
import pathlib
import re
import unittest

PACKAGE = pathlib.Path(__file__).resolve().parent.parent / "sameflights"
FILES = sorted(PACKAGE.glob("*.py"))

NODES = """
Module FunctionDef ClassDef arguments arg Assign AugAssign If While For Return Break Continue Pass Raise Try
ExceptHandler Expr Call Name Attribute Subscript Slice Constant List Tuple Dict Set ListComp comprehension Lambda
IfExp BoolOp BinOp UnaryOp Compare And Or Not USub UAdd Invert Add Sub Mult FloorDiv Mod Pow BitAnd BitOr BitXor
LShift RShift Eq NotEq Lt LtE Gt GtE Is IsNot In NotIn Load Store keyword JoinedStr FormattedValue ImportFrom alias
""".split()
OWN_NAMES = """
len range enumerate zip min max sum abs sorted reversed int str bool list tuple dict set frozenset isinstance ord repr
any all divmod Exception ValueError TypeError KeyError IndexError LookupError ZeroDivisionError ArithmeticError
OverflowError RuntimeError NotImplementedError AttributeError StopIteration
""".split()
METHODS = """
append clear copy count endswith extend find get index insert isalnum isalpha isdigit islower isspace isupper items
join keys ljust lower lstrip partition pop remove replace reverse rfind rjust rpartition rsplit rstrip setdefault split
splitlines startswith strip update upper values zfill bit_length
""".split()
WORDS = """
type typing typing_extensions enum Enum IntEnum StrEnum Flag IntFlag Generic Protocol ABC ABCMeta namedtuple NamedTuple
TypedDict TYPE_CHECKING abstractmethod
""".split()


def parsed_files():
    texts = [path.read_text(encoding="utf-8") for path in FILES]
    return [(path.name, text, ast.parse(text)) for path, text in zip(FILES, texts)]


def bound_names(tree):
    names = []
    for node in ast.walk(tree):
        if isinstance(node, ast.Name) and isinstance(node.ctx, ast.Store):
            names.append(node.id)
        elif isinstance(node, ast.arg):
            names.append(node.arg)
        elif isinstance(node, (ast.FunctionDef, ast.ClassDef)):
            names.append(node.name)
    return names


class Language(unittest.TestCase):
    def test_files(self):
        self.assertIn("__init__.py", [path.name for path in FILES])
        others = [path.name for path in PACKAGE.iterdir() if path not in FILES and path.name != "__pycache__"]
        self.assertEqual(others, [])

    def test_signs_and_sizes(self):
        for file, text, tree in parsed_files():
            self.assertEqual(re.findall(r"[^ -~\n]", text), [], file)
            lines = text.split("\n")
            self.assertLessEqual(len(lines), 400, file)
            self.assertLessEqual(max(len(line) for line in lines), 120, file)
            for node in ast.walk(tree):
                if isinstance(node, ast.FunctionDef):
                    self.assertLessEqual(node.end_lineno - node.lineno + 1, 40, node.name)

    def test_words(self):
        for file, text, tree in parsed_files():
            self.assertEqual([word for word in WORDS if re.search(r"\b" + word + r"\b", text)], [], file)

    def test_nodes(self):
        for file, text, tree in parsed_files():
            kinds = sorted({type(node).__name__ for node in ast.walk(tree)} - set(NODES))
            self.assertEqual(kinds, [], file)

    def test_values(self):
        for file, text, tree in parsed_files():
            for node in ast.walk(tree):
                if isinstance(node, ast.Constant):
                    self.assertIsInstance(node.value, (int, str, bool, type(None)))
                if isinstance(node, ast.Assign):
                    self.assertEqual(len(node.targets), 1)
                    self.assertNotIsInstance(node.targets[0], (ast.Tuple, ast.List))
                if isinstance(node, ast.FunctionDef):
                    self.assertEqual(node.decorator_list, [])
                    self.assertIsNone(node.args.vararg or node.args.kwarg)

    def test_top_of_a_module(self):
        for file, text, tree in parsed_files():
            for node in tree.body[1:]:
                self.assertIsInstance(node, (ast.ImportFrom, ast.FunctionDef, ast.ClassDef, ast.Assign))
                if isinstance(node, ast.Assign):
                    ast.literal_eval(node.value)

    def test_imports_name_what_a_file_defines(self):
        for file, text, tree in parsed_files():
            for node in ast.walk(tree):
                if isinstance(node, ast.ImportFrom):
                    package, name = node.module.split(".")
                    self.assertEqual(package, "sameflights")
                    defined = bound_names(ast.parse((PACKAGE / (name + ".py")).read_text(encoding="utf-8")))
                    for alias in node.names:
                        self.assertIn(alias.name, defined)

    def test_names(self):
        for file, text, tree in parsed_files():
            imported = []
            for node in ast.walk(tree):
                if isinstance(node, ast.ImportFrom):
                    imported += [alias.name for alias in node.names]
                if isinstance(node, ast.Name) and node.id in dir(builtins):
                    self.assertIn(node.id, OWN_NAMES, file)
            for name in bound_names(tree):
                self.assertNotIn(name, dir(builtins), file)
                self.assertNotIn(name, imported, file)
                self.assertTrue(name == "__init__" or not name.startswith("_"), name)

    def test_methods(self):
        own = []
        for file, text, tree in parsed_files():
            for node in ast.walk(tree):
                if isinstance(node, ast.ClassDef):
                    own += [part.name for part in node.body if isinstance(part, ast.FunctionDef)]
        for file, text, tree in parsed_files():
            for node in ast.walk(tree):
                if isinstance(node, ast.Call) and isinstance(node.func, ast.Attribute):
                    self.assertIn(node.func.attr, METHODS + own, file)


if __name__ == "__main__":
    unittest.main()
