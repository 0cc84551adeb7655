"""Promise [1]: nothing handed in is changed or kept, what is told is the asker's own; no clock, chance or files."""

import ast
import builtins
import copy
import pathlib
import unittest

import turnrow
from tests.samples import chain
from turnrow.counting import all_words, counts_of, how_many, number_of, word_at
from turnrow.errors import BadRow, NoSuch, NoTurn, NoWord
from turnrow.groves import grove_of, word_of, words_among
from turnrow.notes import read, shown
from turnrow.rows import beginnings, good, starts, turned

ROW = [1, 1, 0, 1, -1]
WORD = [0, 2, 0, 1, 0]
GROVE = [(), ((), ((),))]
COUNTS = [3, 0, 2, 0]

# What is handed in, and the list that is told.
LISTS = {
    "turned by 0": (lambda row: turned(row, 0), ROW, [1, 1, 0, 1, -1]),
    "turned by 3": (lambda row: turned(row, 3), ROW, [1, -1, 1, 1, 0]),
    "turned by 4": (lambda row: turned(row, 4), ROW, [-1, 1, 1, 0, 1]),
    "beginnings": (beginnings, ROW, [1, 2, 2, 3, 2]),
    "starts": (starts, ROW, [0, 1]),
    "no starts": (starts, [-1], []),
    "word_of": (word_of, GROVE, WORD),
    "word_of one node": (word_of, [()], [0]),
    "grove_of": (grove_of, WORD, GROVE),
    "grove_of a chain": (grove_of, [1] * 59 + [0], [chain(60)]),
    "words_among": (words_among, [0, 1, 0, 0, 2], [3, 4]),
    "no words_among": (words_among, [1, 1], []),
    "counts_of": (counts_of, WORD, [3, 1, 1]),
    "counts_of one number": (counts_of, [0], [1]),
    "word_at 0": (lambda counts: word_at(counts, 0), COUNTS, [2, 0, 2, 0, 0]),
    "word_at 1": (lambda counts: word_at(counts, 1), COUNTS, [2, 2, 0, 0, 0]),
    "all_words": (all_words, COUNTS, [[2, 0, 2, 0, 0], [2, 2, 0, 0, 0]]),
    "one of all_words": (all_words, [2], [[0, 0]]),
    "none of all_words": (all_words, [0, 1], []),
}
# What is handed in, and what is told that is no list.
OTHERS = {
    "good": (good, ROW, True),
    "not good": (good, [0, 1], False),
    "how_many": (how_many, COUNTS, 2),
    "how_many, none": (how_many, [0, 1], 0),
    "number_of": (number_of, WORD, 1),
    "shown": (shown, GROVE, "()(()(()))"),
}
REFUSALS = (
    [(function, bad, BadRow)
     for bad in ([], [1] * 61, [1, 2, 1], [1, 1, -61], [2, 0, -1])
     for function in (lambda row: turned(row, 0), lambda row: turned(row, -1), beginnings, good, starts)]
    + [(lambda row, k=k: turned(row, k), ROW, NoTurn) for k in (-1, 5, 60, -60)]
    + [(function, bad, NoWord)
       for bad in ([], [1], [0, 1], [2, 0], [0, -1, 0], [0, 60, 0], [1] * 60, [-60] * 60)
       for function in (grove_of, counts_of, number_of)]
    + [(lambda counts, number=number: word_at(counts, number), COUNTS, NoSuch) for number in (-1, 2, 3, 10 ** 30)]
    + [(lambda counts, number=number: word_at(counts, number), [0, 1, 0], NoSuch) for number in (-1, 0, 1)]
)
CALLS = {**LISTS, **OTHERS}
ALLOWED = (
    "len range enumerate zip min max sum abs sorted reversed int str bool list tuple dict set frozenset isinstance"
    " ord repr any all divmod Exception ValueError TypeError KeyError IndexError LookupError ZeroDivisionError"
    " ArithmeticError OverflowError RuntimeError NotImplementedError AttributeError StopIteration"
).split()


def spoil(told):
    for within in told:
        if type(within) is list:
            spoil(within)
    told[:1] = [99, 99]
    told.append(99)


def lists_in(told):
    return [told] + [within for within in told if type(within) is list]


class HandedIn(unittest.TestCase):
    def test_the_list_handed_in_is_as_before(self):
        for name, (function, base, answer) in CALLS.items():
            with self.subTest(name=name):
                handed = list(base)
                self.assertEqual(function(handed), answer)
                self.assertEqual(handed, base)

    def test_the_list_handed_in_is_as_before_after_a_refusal(self):
        for function, bad, refusal in REFUSALS:
            with self.subTest(bad=bad, refusal=refusal):
                handed = list(bad)
                with self.assertRaises(refusal):
                    function(handed)
                self.assertEqual(handed, bad)

    def test_changing_the_list_handed_in_changes_nothing_told(self):
        for name, (function, base, answer) in CALLS.items():
            with self.subTest(name=name):
                handed = list(base)
                told = function(handed)
                spoil(handed)
                self.assertEqual(told, answer)
                self.assertEqual(function(list(base)), answer)

    def test_a_changed_list_is_answered_as_it_is_now(self):
        for name, (function, base, answer) in CALLS.items():
            for other, (same, changed, then) in CALLS.items():
                if function == same:
                    with self.subTest(name=name, other=other):
                        handed = list(base)
                        self.assertEqual(function(handed), answer)
                        handed[:] = changed
                        self.assertEqual(function(handed), then)

    def test_rows_words_and_counts_changed_at_one_place(self):
        row = [1, 0]
        self.assertEqual((turned(row, 1), beginnings(row), good(row), starts(row)), ([0, 1], [1, 1], True, [0]))
        row[0] = 0
        row[1] = 1
        self.assertEqual((turned(row, 1), beginnings(row), good(row), starts(row)), ([1, 0], [0, 1], False, [1]))
        word = [0, 1, 0]
        self.assertEqual((grove_of(word), counts_of(word), number_of(word)), ([(), ((),)], [2, 1], 0))
        word[0] = 1
        self.assertEqual((grove_of(word), counts_of(word), number_of(word)), ([(((),),)], [1, 2], 0))
        counts = [2, 1]
        self.assertEqual((how_many(counts), word_at(counts, 0)), (2, [0, 1, 0]))
        counts[0] = 1
        self.assertEqual((how_many(counts), all_words(counts)), (1, [[1, 0]]))
        grove = [()]
        self.assertEqual((word_of(grove), shown(grove)), ([0], "()"))
        grove[0] = ((),)
        self.assertEqual((word_of(grove), shown(grove)), ([1, 0], "(())"))

    def test_a_refusal_changes_no_later_answer(self):
        for function, bad, refusal in REFUSALS:
            with self.assertRaises(refusal):
                function(list(bad))
        for name, (function, base, answer) in CALLS.items():
            self.assertEqual(function(list(base)), answer)


class Told(unittest.TestCase):
    def test_kinds_of_what_is_told(self):
        for name, (function, base, answer) in LISTS.items():
            with self.subTest(name=name):
                told = function(list(base))
                self.assertIs(type(told), list)
                self.assertEqual([type(each) for each in told], [type(each) for each in answer])
                for word in lists_in(told)[1:]:
                    self.assertTrue(all(type(number) is int for number in word))
        for name, (function, base, answer) in OTHERS.items():
            self.assertIs(type(function(list(base))), type(answer))

    def test_good_tells_true_or_false_themselves(self):
        for row, answer in (([1], True), ([1, 1, -1], True), ([0], False), ([1, -1], False), ([-60], False)):
            self.assertIs(good(row), answer)

    def test_a_told_list_is_never_the_one_handed_in(self):
        for name, (function, base, answer) in LISTS.items():
            handed = list(base)
            for told in lists_in(function(handed)):
                self.assertIsNot(told, handed)
        for row in ([1], [1] * 60):
            self.assertIsNot(turned(row, 0), row)
            self.assertIsNot(beginnings(row), row)

    def test_no_two_told_lists_are_one(self):
        for name, (function, base, answer) in LISTS.items():
            handed = list(base)
            told = lists_in(function(handed)) + lists_in(function(handed)) + lists_in(function(list(base)))
            self.assertEqual(len({id(each) for each in told}), len(told), name)
        told = lists_in(all_words([4, 1, 2])) + lists_in(all_words([4, 1, 2]))
        self.assertEqual(len({id(each) for each in told}), len(told))
        self.assertIsNot(read("()()"), read("()()"))

    def test_changing_a_told_list_changes_nothing(self):
        for name, (function, base, answer) in LISTS.items():
            with self.subTest(name=name):
                handed = list(base)
                spoil(function(handed))
                self.assertEqual(handed, base)
                self.assertEqual(function(handed), answer)

    def test_changing_one_told_word_changes_no_other(self):
        words = all_words([4, 1, 2])
        before = copy.deepcopy(words)
        spoil(words[0])
        self.assertEqual(words[1:], before[1:])
        self.assertEqual(all_words([4, 1, 2]), before)
        self.assertEqual(word_at([4, 1, 2], 0), before[0])

    def test_changing_a_read_grove_changes_nothing(self):
        grove = read("(()())()")
        spoil(grove)
        self.assertEqual(read("(()())()"), [((), ()), ()])


class NothingFromOutside(unittest.TestCase):
    def trees(self):
        for path in sorted(pathlib.Path(turnrow.__file__).parent.rglob("*.py")):
            yield path.name, ast.parse(path.read_text(encoding="utf-8"))

    def test_only_the_packages_own_modules_are_imported(self):
        for name, tree in self.trees():
            for node in ast.walk(tree):
                with self.subTest(name=name):
                    self.assertNotIsInstance(node, ast.Import)
                    if isinstance(node, ast.ImportFrom):
                        self.assertEqual(node.level, 0)
                        self.assertTrue(node.module.startswith("turnrow."))

    def test_no_name_of_pythons_own_that_reads_from_outside(self):
        for name, tree in self.trees():
            for node in ast.walk(tree):
                if isinstance(node, ast.Name) and hasattr(builtins, node.id):
                    with self.subTest(name=name, used=node.id):
                        self.assertIn(node.id, ALLOWED)


if __name__ == "__main__":
    unittest.main()
