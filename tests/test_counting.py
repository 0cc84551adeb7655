"""Promises [8], [9] and [10]: boughs' counts, how many words have them, and the words' order."""

import itertools
import math
import unittest

from tests.samples import GROVES, plain_counts, plain_number, plain_word, said_to_be_word, small_counts, small_groves
from tests.samples import words_ending
from turnrow.counting import all_words, counts_of, how_many, number_of, word_at
from turnrow.errors import NoSuch
from turnrow.groves import grove_of, word_of

# Sums of 60, with words; how many trees each has stands beside it.
LARGE = (
    ([60], 60),
    ([1, 59], 1),
    ([59, 1], 59),
    ([30, 30], 30),
    ([31, 0, 29], 2),
    ([30, 1, 29], 1),
    ([40, 10, 0, 10], 20),
    ([36, 7, 8, 5, 3, 1], 5),
    ([59] + [0] * 58 + [1], 1),
    ([57, 1, 1, 0, 0, 1], 52),
)
# The trees would be n - m, which is less than 1.
WITHOUT_WORDS = (
    [0, 1], [0, 60], [0, 0, 1], [1, 0, 1], [1, 1, 1], [2, 0, 2], [3, 0, 0, 2], [0, 1, 0], [30, 0, 30], [0] * 59 + [1],
    [58, 0, 1] + [0] * 56 + [1], [1] * 60, [0] * 59 + [60], [1, 58, 1], [20, 0, 0, 0, 40], [1, 1, 1] + [0] * 57,
)


def words_by_counts(most):
    found = {}
    for grove in small_groves(most):
        word = plain_word(grove)
        found.setdefault(tuple(plain_counts(word)), []).append(word)
    return {counts: sorted(words) for counts, words in found.items()}


def list_of(counts):
    return [number for number, count in enumerate(counts) for each in range(count)]


class CountsOf(unittest.TestCase):
    def test_counts_written_out(self):
        self.assertEqual(counts_of([0]), [1])
        self.assertEqual(counts_of([0, 0, 0]), [3])
        self.assertEqual(counts_of([1, 0]), [1, 1])
        self.assertEqual(counts_of([2, 0, 0, 0]), [3, 0, 1])
        self.assertEqual(counts_of([3, 0, 1, 0, 0, 1, 0]), [4, 2, 0, 1])
        self.assertEqual(counts_of([59] + [0] * 59), [59] + [0] * 58 + [1])
        self.assertEqual(counts_of([1] * 59 + [0]), [1, 59])
        self.assertEqual(counts_of([0] * 60), [60])

    def test_small_groves_and_samples(self):
        for grove in small_groves(6) + list(GROVES.values()):
            word = word_of(grove)
            told = counts_of(word)
            self.assertEqual(told, plain_counts(word))
            self.assertNotEqual(told[-1], 0)
            self.assertEqual(sum(told), len(word))

    def test_trees_of_a_word_with_given_counts(self):
        for counts, trees in LARGE:
            for number in (0, how_many(counts) // 2, how_many(counts) - 1):
                self.assertEqual(len(grove_of(word_at(counts, number))), trees)


class HowMany(unittest.TestCase):
    def test_numbers_written_out(self):
        self.assertEqual(how_many([1]), 1)
        self.assertEqual(how_many([1, 1]), 1)
        self.assertEqual(how_many([3, 0, 1]), 2)
        self.assertEqual(how_many([2, 1]), 2)
        self.assertEqual(how_many([3, 0, 2]), 2)
        self.assertEqual(how_many([4, 0, 3]), 5)
        self.assertEqual(how_many([3, 1, 1]), 8)

    def test_small_counts_by_going_through_all_lists(self):
        for counts in small_counts(6):
            lists = set(itertools.permutations(list_of(counts)))
            words = [numbers for numbers in lists if said_to_be_word(numbers)]
            self.assertEqual(how_many(counts), len(words))

    def test_counts_of_up_to_eight_against_all_groves(self):
        found = words_by_counts(8)
        for counts, words in found.items():
            self.assertEqual(how_many(list(counts)), len(words))
        for counts in small_counts(8):
            short = list(counts)
            while short[-1] == 0:
                short.pop()
            self.assertEqual(how_many(counts), len(found.get(tuple(short), [])))

    def test_large_counts(self):
        self.assertEqual(how_many([60]), 1)
        self.assertEqual(how_many([1, 59]), 1)
        self.assertEqual(how_many([59, 1]), 59)
        self.assertEqual(how_many([59] + [0] * 58 + [1]), 1)
        self.assertEqual(how_many([30, 0, 29]), math.comb(58, 29) // 30)
        self.assertEqual(how_many([31, 0, 29]), 2 * math.comb(60, 29) // 60)
        self.assertEqual(how_many([30, 30]), 30 * math.comb(60, 30) // 60)
        for counts, trees in LARGE:
            with self.subTest(counts=counts):
                self.assertEqual(how_many(counts), words_ending(tuple(counts)))
                self.assertIs(type(how_many(counts)), int)

    def test_nought_where_there_is_no_word(self):
        for counts in WITHOUT_WORDS:
            with self.subTest(counts=counts):
                self.assertEqual(how_many(counts), 0)

    def test_noughts_behind_change_nothing(self):
        for counts in [counts for counts, trees in LARGE] + list(WITHOUT_WORDS) + list(small_counts(3)):
            self.assertEqual(how_many(counts + [0]), how_many(counts))
            self.assertEqual(how_many(counts + [0] * (60 - len(counts))), how_many(counts))

    def test_counts_somewhat_beyond_the_bounds_are_taken(self):
        self.assertEqual(how_many([61]), 1)
        self.assertEqual(how_many([70, 1]), 70)
        self.assertEqual(how_many([69] + [0] * 68 + [1]), 1)
        self.assertEqual(how_many([3, 0, 1] + [0] * 70), 2)
        self.assertEqual(how_many([0]), 0)
        self.assertEqual(how_many([]), 0)
        self.assertEqual(how_many([3, -1]), 0)
        self.assertEqual(how_many([1, -1]), 0)


class AllWords(unittest.TestCase):
    def test_words_written_out(self):
        self.assertEqual(all_words([1]), [[0]])
        self.assertEqual(all_words([2, 1]), [[0, 1, 0], [1, 0, 0]])
        self.assertEqual(all_words([3, 0, 1]), [[0, 2, 0, 0], [2, 0, 0, 0]])
        self.assertEqual(all_words([3, 0, 2]), [[2, 0, 2, 0, 0], [2, 2, 0, 0, 0]])
        self.assertEqual(all_words([2, 1, 1]), [[1, 2, 0, 0], [2, 0, 1, 0], [2, 1, 0, 0]])
        self.assertEqual(all_words([8]), [[0] * 8])
        self.assertEqual(all_words([7, 0, 0, 0, 0, 0, 0, 1]), [[7] + [0] * 7])

    def test_all_counts_of_up_to_eight(self):
        for counts, words in words_by_counts(8).items():
            self.assertEqual(all_words(list(counts)), words)

    def test_none_where_there_is_no_word(self):
        for counts in small_counts(8):
            if sum(count * (1 - place) for place, count in enumerate(counts)) < 1:
                self.assertEqual(all_words(counts), [])

    def test_noughts_behind_change_nothing(self):
        for counts in small_counts(4):
            self.assertEqual(all_words(counts + [0]), all_words(counts))
            self.assertEqual(all_words(counts + [0] * (60 - len(counts))), all_words(counts))

    def test_counts_somewhat_beyond_the_bounds_are_taken(self):
        self.assertEqual(all_words([9, 1]), [[0] * place + [1] + [0] * (9 - place) for place in range(8, -1, -1)])
        self.assertEqual(all_words([0]), [])


class Numbers(unittest.TestCase):
    def test_all_counts_of_up_to_eight(self):
        for counts, words in words_by_counts(8).items():
            for number, word in enumerate(words):
                self.assertEqual(number_of(word), number)
                self.assertEqual(word_at(list(counts), number), word)

    def test_words_of_sixty_numbers(self):
        for counts, trees in LARGE:
            words = how_many(counts)
            asked = sorted({number for number in (0, 1, 2, words // 7, words // 3, words // 2, words - 2, words - 1)
                            if 0 <= number < words})
            told = [word_at(counts, number) for number in asked]
            with self.subTest(counts=counts):
                self.assertEqual([number_of(word) for word in told], asked)
                self.assertEqual([plain_number(word) for word in told], asked)
                self.assertEqual(told, sorted(told))
                for word in told:
                    self.assertTrue(said_to_be_word(word))
                    self.assertEqual(plain_counts(word), counts)

    def test_the_samples(self):
        for name, grove in GROVES.items():
            word = word_of(grove)
            with self.subTest(name=name):
                self.assertEqual(number_of(word), plain_number(word))
                self.assertEqual(word_at(counts_of(word), number_of(word)), word)
                self.assertIs(type(number_of(word)), int)

    def test_first_and_last_words_of_sixty_numbers(self):
        self.assertEqual(word_at([59, 1], 0), [0] * 58 + [1, 0])
        self.assertEqual(word_at([59, 1], 58), [1] + [0] * 59)
        self.assertEqual(word_at([31, 0, 29], 0), [0] + [2, 0] * 29 + [0])
        self.assertEqual(word_at([31, 0, 29], how_many([31, 0, 29]) - 1), [2] * 29 + [0] * 31)
        self.assertEqual(number_of([2] * 29 + [0] * 31), how_many([31, 0, 29]) - 1)
        self.assertEqual(number_of([0] + [2, 0] * 29 + [0]), 0)

    def test_noughts_behind_change_nothing(self):
        for counts, trees in LARGE:
            for number in (0, how_many(counts) // 2, how_many(counts) - 1):
                word = word_at(counts, number)
                self.assertEqual(word_at(counts + [0], number), word)
                self.assertEqual(word_at(counts + [0] * (60 - len(counts)), number), word)

    def test_words_somewhat_beyond_the_bounds_are_taken(self):
        self.assertEqual(word_at([61], 0), [0] * 61)
        self.assertEqual(number_of([0] * 61), 0)
        self.assertEqual(word_at([70, 1], 69), [1] + [0] * 70)
        self.assertEqual(number_of([1] + [0] * 70), 69)
        self.assertEqual(counts_of([1] + [0] * 70), [70, 1])


class NoSuchNumber(unittest.TestCase):
    def check_refused(self, counts, number):
        for behind in (0, 1, 60 - len(counts)):
            with self.assertRaises(NoSuch):
                word_at(counts + [0] * behind, number)

    def test_below_nought_and_not_less_than_there_are_words(self):
        some = [[1], [3], [1, 1], [3, 0, 1], [4, 0, 3], [3, 1, 1]] + [counts for counts, trees in LARGE]
        for counts in some:
            words = how_many(counts)
            for number in (-1, -2, -60, -words, -words - 1, words, words + 1, 2 * words, words + 60,
                           10 ** 100, -(10 ** 100), 10 ** 5000, -(10 ** 5000)):
                with self.subTest(counts=counts, far=number.bit_length()):
                    self.check_refused(counts, number)

    def test_any_number_where_there_is_no_word(self):
        for counts in WITHOUT_WORDS:
            for number in (0, 1, -1, 2, 60, -60, 10 ** 100, -(10 ** 100)):
                with self.subTest(counts=counts, number=number):
                    self.check_refused(counts, number)

    def test_all_small_counts(self):
        for counts in small_counts(5):
            words = how_many(counts)
            for number in (-1, words, words + 1):
                with self.assertRaises(NoSuch):
                    word_at(counts, number)


if __name__ == "__main__":
    unittest.main()
