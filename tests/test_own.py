"""Promise [1]: nothing handed in is changed or kept, what is told is the asker's own; no clock, chance or files."""

import ast
import builtins
import pathlib
import unittest

import turnrow
from turnrow.errors import BadRow, NoTurn
from turnrow.rows import beginnings, good, starts, turned

ROW = [1, 1, 0, 1, -1]
LISTS = {
    "turned by 0": (lambda row: turned(row, 0), [1, 1, 0, 1, -1]),
    "turned by 3": (lambda row: turned(row, 3), [1, -1, 1, 1, 0]),
    "turned by 4": (lambda row: turned(row, 4), [-1, 1, 1, 0, 1]),
    "beginnings": (beginnings, [1, 2, 2, 3, 2]),
    "starts": (starts, [0, 1]),
}
ALLOWED = (
    "len range enumerate zip min max sum abs sorted reversed int str bool list tuple dict set frozenset isinstance"
    " ord repr any all divmod Exception ValueError TypeError KeyError IndexError LookupError ZeroDivisionError"
    " ArithmeticError OverflowError RuntimeError NotImplementedError AttributeError StopIteration"
).split()


class HandedIn(unittest.TestCase):
    def test_the_list_handed_in_is_as_before(self):
        row = list(ROW)
        for name, (function, answer) in LISTS.items():
            with self.subTest(name=name):
                function(row)
                self.assertEqual(row, ROW)
        good(row)
        self.assertEqual(row, ROW)

    def test_the_list_handed_in_is_as_before_after_a_refusal(self):
        for bad in ([], [1] * 61, [1, 2, 1], [1, 1, -61], [2, 0, -1]):
            for function in (lambda row: turned(row, 0), lambda row: turned(row, -1), beginnings, good, starts):
                row = list(bad)
                with self.assertRaises(BadRow):
                    function(row)
                self.assertEqual(row, bad)
        for k in (-1, 5, 60, -60):
            row = list(ROW)
            with self.assertRaises(NoTurn):
                turned(row, k)
            self.assertEqual(row, ROW)

    def test_changing_the_list_handed_in_changes_nothing_told(self):
        for name, (function, answer) in LISTS.items():
            with self.subTest(name=name):
                row = list(ROW)
                told = function(row)
                row[0] = -60
                row.append(0)
                self.assertEqual(told, answer)
                self.assertEqual(function(list(ROW)), answer)

    def test_a_changed_list_is_answered_as_it_is_now(self):
        row = [1, 0]
        self.assertEqual((turned(row, 1), beginnings(row), good(row), starts(row)), ([0, 1], [1, 1], True, [0]))
        row[0] = 0
        row[1] = 1
        self.assertEqual((turned(row, 1), beginnings(row), good(row), starts(row)), ([1, 0], [0, 1], False, [1]))
        row.append(1)
        self.assertEqual((turned(row, 1), beginnings(row), good(row), starts(row)),
                         ([1, 1, 0], [0, 1, 2], False, [1, 2]))

    def test_a_refusal_changes_no_later_answer(self):
        for k in (-1, 5):
            with self.assertRaises(NoTurn):
                turned(ROW, k)
        with self.assertRaises(BadRow):
            starts([2])
        for name, (function, answer) in LISTS.items():
            self.assertEqual(function(list(ROW)), answer)


class Told(unittest.TestCase):
    def test_a_told_list_is_a_list_of_whole_numbers(self):
        for name, (function, answer) in LISTS.items():
            with self.subTest(name=name):
                told = function(list(ROW))
                self.assertEqual(told, answer)
                self.assertIs(type(told), list)
                self.assertTrue(all(type(number) is int for number in told))
        self.assertIs(type(starts([-1])), list)

    def test_a_told_list_is_never_the_one_handed_in(self):
        for base in ([1], [1, 1], ROW, [0], [1] * 60):
            row = list(base)
            self.assertIsNot(turned(row, 0), row)
            self.assertIsNot(beginnings(row), row)
            self.assertIsNot(starts(row), row)

    def test_changing_a_told_list_changes_nothing(self):
        for name, (function, answer) in LISTS.items():
            with self.subTest(name=name):
                row = list(ROW)
                first = function(row)
                first[0] = 99
                first.append(99)
                self.assertEqual(row, ROW)
                second = function(row)
                self.assertIsNot(first, second)
                self.assertEqual(second, answer)

    def test_empty_starts_are_the_askers_own_too(self):
        starts([-1]).append(7)
        self.assertEqual(starts([-1]), [])

    def test_good_tells_true_or_false_themselves(self):
        self.assertIs(good([1]), True)
        self.assertIs(good([1, 1, -1]), True)
        self.assertIs(good([0]), False)
        self.assertIs(good([1, -1]), False)
        self.assertIs(good([-60]), False)


class NothingFromOutside(unittest.TestCase):
    def trees(self):
        for path in sorted(pathlib.Path(turnrow.__file__).parent.rglob("*.py")):
            yield path.name, ast.parse(path.read_text(encoding="utf-8"))

    def test_only_the_packages_own_modules_are_imported(self):
        for name, tree in self.trees():
            for node in ast.walk(tree):
                with self.subTest(name=name):
                    self.assertNotIsInstance(node, ast.Import)
                    if isinstance(node, ast.ImportFrom):
                        self.assertEqual(node.level, 0)
                        self.assertTrue(node.module.startswith("turnrow."))

    def test_no_name_of_pythons_own_that_reads_from_outside(self):
        for name, tree in self.trees():
            for node in ast.walk(tree):
                if isinstance(node, ast.Name) and hasattr(builtins, node.id):
                    with self.subTest(name=name, used=node.id):
                        self.assertIn(node.id, ALLOWED)


if __name__ == "__main__":
    unittest.main()
