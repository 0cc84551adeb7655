"""Promises [5], [6] and [7]: trees and groves, their words, the turns of a list that are words."""

import itertools
import unittest

from tests.samples import GROVES, chain, is_tree, plain_word, said_to_be_word, small_groves, turn
from turnrow.counting import counts_of, number_of
from turnrow.errors import NoWord
from turnrow.groves import grove_of, word_of, words_among

REFUSING = (grove_of, counts_of, number_of)
ORDINARY = [3, 0, 1, 0, 2, 0, 0, 0]


class WordOf(unittest.TestCase):
    def test_words_written_out(self):
        self.assertEqual(word_of([()]), [0])
        self.assertEqual(word_of([(), ()]), [0, 0])
        self.assertEqual(word_of([((),)]), [1, 0])
        self.assertEqual(word_of([((), ()), ()]), [2, 0, 0, 0])
        self.assertEqual(word_of([(), ((), ())]), [0, 2, 0, 0])
        self.assertEqual(word_of([((), ((),), ()), ((),)]), [3, 0, 1, 0, 0, 1, 0])
        self.assertEqual(word_of([(((), ()), ((),))]), [2, 2, 0, 0, 1, 0])
        self.assertEqual(word_of([(((),), ((), ()))]), [2, 1, 0, 2, 0, 0])

    def test_words_of_sixty_nodes(self):
        self.assertEqual(word_of(GROVES["one tree 60 deep"]), [1] * 59 + [0])
        self.assertEqual(word_of(GROVES["one tree of 59 boughs"]), [59] + [0] * 59)
        self.assertEqual(word_of(GROVES["60 trees"]), [0] * 60)
        self.assertEqual(word_of(GROVES["30 trees of two"]), [1, 0] * 30)
        self.assertEqual(word_of(GROVES["a chain on a broad tree"]), [41] + [0] * 20 + [1] * 18 + [0] * 21)

    def test_each_sample(self):
        for name, grove in GROVES.items():
            with self.subTest(name=name):
                self.assertEqual(word_of(grove), plain_word(grove))

    def test_all_small_groves_have_words_of_their_own(self):
        groves = small_groves(7)
        for grove in groves:
            self.assertEqual(word_of(grove), plain_word(grove))
        self.assertEqual(len({tuple(word_of(grove)) for grove in groves}), len(groves))

    def test_groves_somewhat_beyond_the_bounds_are_taken(self):
        self.assertEqual(word_of([()] * 61), [0] * 61)
        self.assertEqual(word_of([((),) * 70]), [70] + [0] * 70)
        self.assertEqual(word_of([chain(90)]), [1] * 89 + [0])


class GroveOf(unittest.TestCase):
    def test_groves_written_out(self):
        self.assertEqual(grove_of([0]), [()])
        self.assertEqual(grove_of([2, 0, 0, 0]), [((), ()), ()])
        self.assertEqual(grove_of([0, 2, 0, 0]), [(), ((), ())])
        self.assertEqual(grove_of([3, 0, 1, 0, 0, 1, 0]), [((), ((),), ()), ((),)])
        self.assertEqual(grove_of([2, 1, 0, 2, 0, 0]), [(((),), ((), ()))])

    def check_back(self, grove):
        told = grove_of(word_of(grove))
        self.assertEqual(told, grove)
        self.assertIs(type(told), list)
        self.assertTrue(all(is_tree(tree) for tree in told))

    def test_each_sample_comes_back(self):
        for name, grove in GROVES.items():
            with self.subTest(name=name):
                self.check_back(grove)

    def test_all_small_groves_come_back(self):
        for grove in small_groves(7):
            self.check_back(grove)

    def test_the_rows_sum_is_how_many_trees(self):
        for grove in list(GROVES.values()) + small_groves(6):
            word = word_of(grove)
            self.assertEqual(len(grove_of(word)), len(word) - sum(word))

    def test_words_somewhat_beyond_the_bounds_are_taken(self):
        self.check_back([()] * 61)
        self.check_back([((),) * 70])
        self.check_back([chain(90)])


class NoWords(unittest.TestCase):
    def check_refused(self, numbers):
        for function in REFUSING:
            with self.subTest(function=function.__name__, numbers=numbers):
                with self.assertRaises(NoWord):
                    function(numbers)

    def test_no_numbers(self):
        self.check_refused([])

    def test_one_number(self):
        for number in range(-61, 62):
            if number != 0:
                self.check_refused([number])

    def test_a_word_with_a_number_more(self):
        for name, grove in GROVES.items():
            word = word_of(grove)
            trees = len(grove)
            # As a first number it has more boughs than there are trees; as a last it has none of its boughs.
            for first in (trees + 1, trees + 2, 60 + trees, -1, -60):
                self.check_refused([first] + word)
            for last in (1, 2, 60, -1, -60):
                self.check_refused(word + [last])

    def test_a_word_with_a_number_less(self):
        for word in ([1, 0], [2, 0, 0], [1, 1, 0], [2, 1, 0, 0], [0, 0, 3, 0, 0, 0], [1] * 59 + [0], [59] + [0] * 59):
            self.check_refused(word[:-1])
        for word in ([2, 0, 0], [3, 0, 1, 0, 0], [59] + [0] * 59):
            for place in range(len(word)):
                if word[place] == 0:
                    self.check_refused(word[:place] + word[place + 1:])

    def test_words_turned_so_that_they_are_none(self):
        for name, grove in GROVES.items():
            word = word_of(grove)
            for k in range(1, len(word)):
                if word[k - 1] != 0:
                    self.check_refused(turn(word, k))
        for k in range(1, 60):
            self.check_refused(turn([59] + [0] * 59, k))
            self.check_refused(turn([1] * 59 + [0], k))

    def test_numbers_below_nought_and_far_above(self):
        for word in (ORDINARY, [0, 0, 0], [2, 0, 0], [0] * 60, [1] * 59 + [0], [59] + [0] * 59):
            for place in (0, len(word) // 2, len(word) - 1):
                for number in (-1, -2, -59, -60, -61, 60, 61, 62, 10 ** 30, -(10 ** 30)):
                    self.check_refused(word[:place] + [number] + word[place + 1:])

    def test_numbers_too_long_to_be_written_out(self):
        for far in (10 ** 5000, -(10 ** 5000)):
            for function in REFUSING:
                with self.assertRaises(NoWord):
                    function([0, far, 0])

    def test_numbers_below_nought_that_others_make_up_for(self):
        for numbers in ([-1, 2, 0], [0, -1], [3, -1, 0, 0], [2, -1, 1, 0], [0, -60, 0], [60, -60, 0], [5, -3, 0],
                        [-1, 0], [1, -1, 0], [2, 0, -1, 0, 0], [60, -60] * 30):
            self.check_refused(numbers)

    def test_sums_that_fit_in_the_wrong_order(self):
        for numbers in ([0, 1], [0, 0, 2], [0, 2, 0], [1, 0, 1, 0, 1], [2, 0, 0, 1], [0] * 59 + [59], [0, 0, 0, 1]):
            self.assertGreater(len(numbers) - sum(numbers), 0)
            self.check_refused(numbers)

    def check_taken_where_it_is_a_word(self, numbers, words):
        if tuple(numbers) in words:
            self.assertTrue(said_to_be_word(numbers))
            self.assertEqual(plain_word(grove_of(numbers)), numbers)
            self.assertEqual(sum(counts_of(numbers)), len(numbers))
            self.assertGreaterEqual(number_of(numbers), 0)
        else:
            self.assertFalse(said_to_be_word(numbers))
            for function in REFUSING:
                with self.assertRaises(NoWord):
                    function(numbers)

    def test_all_short_lists(self):
        words = {tuple(plain_word(grove)) for grove in small_groves(6)}
        for length in range(6):
            for numbers in itertools.product(range(-2, 6), repeat=length):
                self.check_taken_where_it_is_a_word(list(numbers), words)
        for numbers in itertools.product(range(4), repeat=6):
            self.check_taken_where_it_is_a_word(list(numbers), words)


class WordsAmong(unittest.TestCase):
    def check(self, numbers):
        told = words_among(numbers)
        self.assertEqual(told, [k for k in range(len(numbers)) if said_to_be_word(turn(numbers, k))])
        self.assertEqual(told, sorted(set(told)))
        trees = len(numbers) - sum(numbers)
        self.assertEqual(len(told), max(0, trees))
        for k in told:
            self.assertEqual(len(grove_of(turn(numbers, k))), trees)

    def test_turns_written_out(self):
        self.assertEqual(words_among([0, 1]), [1])
        self.assertEqual(words_among([0, 0, 2]), [2])
        self.assertEqual(words_among([2, 0, 0]), [0])
        self.assertEqual(words_among([0, 2, 0, 0]), [0, 1])
        self.assertEqual(words_among([0, 0, 0, 2]), [2, 3])
        self.assertEqual(words_among([0, 0, 2, 0]), [1, 2])
        self.assertEqual(words_among([0, 3, 0, 0, 0, 1, 0]), [0, 1, 5])

    def test_one_number(self):
        self.assertEqual(words_among([0]), [0])
        for number in range(1, 61):
            self.assertEqual(words_among([number]), [])

    def test_none_where_the_sum_is_not_less_than_the_length(self):
        for numbers in ([1], [1, 1], [0, 2], [2, 0, 1, 1], [0] * 59 + [60], [60] + [0] * 59, [1] * 60, [60] * 60,
                        [0, 60] * 30):
            with self.subTest(numbers=numbers):
                self.assertEqual(words_among(numbers), [])

    def test_sixty_numbers(self):
        self.assertEqual(words_among([0] * 60), list(range(60)))
        for k in range(60):
            self.assertEqual(words_among(turn([59] + [0] * 59, k)), [(60 - k) % 60])
            self.assertEqual(words_among(turn([1] * 59 + [0], k)), [(60 - k) % 60])
        self.assertEqual(words_among([0] * 29 + [58] + [0] * 30), [28, 29])

    def test_lists_that_repeat_themselves(self):
        self.assertEqual(words_among([0, 0]), [0, 1])
        self.assertEqual(words_among([1, 0, 1, 0]), [0, 2])
        self.assertEqual(words_among([0, 1] * 30), list(range(1, 60, 2)))
        self.assertEqual(words_among([0, 0, 2] * 20), list(range(2, 60, 3)))
        self.assertEqual(words_among([0, 2, 0, 0] * 2), [0, 1, 4, 5])

    def test_all_short_lists(self):
        for length in range(1, 7):
            for numbers in itertools.product(range(5), repeat=length):
                self.check(list(numbers))

    def test_turns_of_the_samples(self):
        for name, grove in GROVES.items():
            word = word_of(grove)
            with self.subTest(name=name):
                for k in (0, len(word) // 3, len(word) // 2, len(word) - 1):
                    numbers = turn(word, k)
                    self.check(numbers)
                    self.assertIn((len(word) - k) % len(word), words_among(numbers))

    def test_lists_somewhat_beyond_the_bounds_are_taken(self):
        self.assertEqual(words_among([0] * 61), list(range(61)))
        self.assertEqual(words_among([0] * 70 + [70]), [70])
        self.assertEqual(words_among([61]), [])
        self.assertEqual(words_among([62, 0]), [])
        self.assertEqual(words_among([0, 100] * 30), [])


if __name__ == "__main__":
    unittest.main()
