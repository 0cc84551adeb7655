"""What a test can see of LANGUAGE.md: files, sizes, signs, and the forms that the package uses."""

import ast
import builtins
import pathlib
import re
import unittest

import turnrow

FOLDER = pathlib.Path(turnrow.__file__).parent
# The forms that the package needs today, all of them within L3 to L7; a new one is to be looked up there first.
FORMS = (
    "Module Expr ImportFrom alias FunctionDef arguments arg ClassDef Pass"
    " Assign If While For Return Break Continue Raise"
    " Constant List Tuple Dict Name Attribute Call Subscript Slice Load Store"
    " BinOp Add Sub Mult FloorDiv Mod UnaryOp USub Not BoolOp And Or Compare Eq NotEq Lt LtE Gt GtE In NotIn Is IsNot"
    " IfExp ListComp comprehension JoinedStr FormattedValue"
).split()
METHODS = (
    "append clear copy count endswith extend find get index insert isalnum isalpha isdigit islower isspace isupper items"
    " join keys ljust lower lstrip partition pop remove replace reverse rfind rjust rpartition rsplit rstrip setdefault"
    " split splitlines startswith strip update upper values zfill bit_length"
).split()
WORDS_OUT = (
    "type typing typing_extensions enum Enum IntEnum StrEnum Flag IntFlag Generic Protocol ABC ABCMeta namedtuple"
    " NamedTuple TypedDict TYPE_CHECKING abstractmethod"
).split()


def files():
    return sorted(path for path in FOLDER.rglob("*") if path.is_file() and "__pycache__" not in path.parts)


def nodes():
    for path in files():
        for node in ast.walk(ast.parse(path.read_text(encoding="utf-8"))):
            yield path.name, node


class Language(unittest.TestCase):
    def test_files(self):
        names = [str(path.relative_to(FOLDER)) for path in files()]
        self.assertEqual(names, ["__init__.py", "counting.py", "errors.py", "groves.py", "notes.py", "rows.py"])

    def test_sizes_and_signs(self):
        for path in files():
            text = path.read_bytes().decode("ascii")
            lines = text.split("\n")
            self.assertLessEqual(len(lines), 400, path.name)
            self.assertLessEqual(max(len(line) for line in lines), 120, path.name)
            self.assertTrue(all(sign == "\n" or " " <= sign <= "~" for sign in text), path.name)
            self.assertEqual([word for word in re.findall(r"\w+", text) if word in WORDS_OUT], [], path.name)

    def test_functions_are_short(self):
        for name, node in nodes():
            if isinstance(node, ast.FunctionDef):
                self.assertLessEqual(node.end_lineno - node.lineno + 1, 40, (name, node.name))

    def test_forms(self):
        for name, node in nodes():
            self.assertIn(type(node).__name__, FORMS, (name, getattr(node, "lineno", None)))
            if isinstance(node, ast.Assign):
                self.assertEqual(len(node.targets), 1)
                self.assertNotIsInstance(node.targets[0], (ast.Tuple, ast.List))
            if isinstance(node, ast.ListComp):
                self.assertEqual(len(node.generators), 1)
            if isinstance(node, ast.Constant):
                self.assertIn(type(node.value), (int, str, bool, type(None)))

    def test_methods_are_pythons_own_that_are_listed(self):
        for name, node in nodes():
            if isinstance(node, ast.Attribute):
                self.assertIn(node.attr, METHODS, (name, node.lineno))

    def test_names_are_plain_and_give_no_new_meaning(self):
        for name, node in nodes():
            bound = None
            if isinstance(node, (ast.FunctionDef, ast.ClassDef)):
                bound = node.name
            if isinstance(node, ast.arg):
                bound = node.arg
            if isinstance(node, ast.Name) and isinstance(node.ctx, ast.Store):
                bound = node.id
            if bound is not None:
                self.assertRegex(bound, r"\A[A-Za-z][A-Za-z0-9_]*\Z")
                self.assertFalse(hasattr(builtins, bound), (name, bound))


if __name__ == "__main__":
    unittest.main()
