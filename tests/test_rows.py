"""Promises [2], [3] and [4]: rows, their turns and beginnings, good rows, starts."""

import itertools
import unittest

from turnrow.errors import BadRow, NoTurn
from turnrow.rows import beginnings, good, starts, turned

FUNCTIONS = {
    "turned": lambda row: turned(row, 0),
    "beginnings": beginnings,
    "good": good,
    "starts": starts,
}

OUT_OF_BOUNDS = (2, 3, 61, 1000, 10 ** 30, -61, -62, -1000, -(10 ** 30))
WRONG_LENGTHS = (0, 61, 62, 120, 1000)


def with_number(length, place, number):
    row = [1] * length
    row[place] = number
    return row


def bad_rows():
    for length in WRONG_LENGTHS:
        for number in (1, 0, -60):
            yield [number] * length
    for number in OUT_OF_BOUNDS:
        yield [number]
        for length in (2, 5, 60):
            for place in (0, length // 2, length - 1):
                yield with_number(length, place, number)
                yield [-60 if at != place else number for at in range(length)]
    # Wrong in both ways.
    yield [2] * 61
    yield [-61] * 61
    # Sums that would make up for a number out of bounds.
    yield [2, -1]
    yield [1, 1, 2, -3]


def plain_sums(row):
    return [sum(row[:end]) for end in range(1, len(row) + 1)]


def plain_starts(row):
    length = len(row)
    found = []
    for k in range(length):
        turn = [row[(k + place) % length] for place in range(length)]
        if all(total > 0 for total in plain_sums(turn)):
            found.append(k)
    return found


def long_rows():
    # A fixed, uneven run of numbers: the tests are to be the same each time.
    state = 1
    for lowest in (0, -1, -2, -5, -60):
        for length in (7, 30, 59, 60):
            row = []
            for place in range(length):
                state = (state * 1103515245 + 12345) % 2147483648
                draw = state // 65536
                row.append(1 if draw % 4 else 1 - (draw // 4) % (2 - lowest))
            yield row


class WhatARowIs(unittest.TestCase):
    def test_bad_rows_are_refused_by_each_function(self):
        for row in bad_rows():
            for name, function in FUNCTIONS.items():
                with self.subTest(name=name, row=row):
                    with self.assertRaises(BadRow):
                        function(row)

    def test_numbers_too_long_to_be_written_out_are_refused_too(self):
        for far in (10 ** 5000, -(10 ** 5000)):
            for name, function in FUNCTIONS.items():
                with self.subTest(name=name):
                    with self.assertRaises(BadRow):
                        function([1, far, 1])
            with self.assertRaises(NoTurn):
                turned([1, 1, 1], far)

    def test_a_bad_row_is_refused_ahead_of_a_bad_turn(self):
        for row in bad_rows():
            for k in (-10 ** 9, -len(row) - 1, -1, len(row), len(row) + 1, 10 ** 9):
                with self.subTest(row=row, k=k):
                    with self.assertRaises(BadRow):
                        turned(row, k)

    def test_a_bad_row_is_refused_whichever_turn_is_asked(self):
        for k in range(61):
            with self.assertRaises(BadRow):
                turned([1] * 61, k)
        for k in range(5):
            with self.assertRaises(BadRow):
                turned([1, 1, 2, 1, 1], k)

    def test_rows_of_one_number_are_taken(self):
        for number in range(-60, 2):
            with self.subTest(number=number):
                self.assertEqual(turned([number], 0), [number])
                self.assertEqual(beginnings([number]), [number])
                self.assertIs(good([number]), number == 1)
                self.assertEqual(starts([number]), [0] if number == 1 else [])

    def test_rows_of_sixty_numbers_are_taken(self):
        self.assertEqual(turned([1] * 60, 59), [1] * 60)
        self.assertEqual(beginnings([1] * 60), list(range(1, 61)))
        self.assertIs(good([1] * 60), True)
        self.assertEqual(starts([1] * 60), list(range(60)))
        self.assertEqual(turned([-60] * 60, 59), [-60] * 60)
        self.assertEqual(beginnings([-60] * 60), list(range(-60, -3601, -60)))
        self.assertIs(good([-60] * 60), False)
        self.assertEqual(starts([-60] * 60), [])

    def test_the_bounds_are_taken_at_every_place(self):
        for length in (1, 2, 5, 60):
            for place in (0, length // 2, length - 1):
                for number in (-60, 1):
                    for other in (-60, 0, 1):
                        row = [other] * length
                        row[place] = number
                        with self.subTest(row=row):
                            self.assertEqual(turned(row, 0), row)
                            self.assertEqual(beginnings(row), plain_sums(row))
                            self.assertIs(good(row), min(plain_sums(row)) > 0)
                            self.assertEqual(starts(row), plain_starts(row))


class Turned(unittest.TestCase):
    def test_each_turn_of_an_ordinary_row(self):
        row = [1, 0, -2, -60, 1]
        self.assertEqual(turned(row, 0), [1, 0, -2, -60, 1])
        self.assertEqual(turned(row, 1), [0, -2, -60, 1, 1])
        self.assertEqual(turned(row, 2), [-2, -60, 1, 1, 0])
        self.assertEqual(turned(row, 3), [-60, 1, 1, 0, -2])
        self.assertEqual(turned(row, 4), [1, 1, 0, -2, -60])

    def test_each_turn_of_a_row_of_sixty(self):
        row = list(range(-58, 2))
        for k in range(60):
            self.assertEqual(turned(row, k), [row[(k + place) % 60] for place in range(60)])

    def test_numbers_that_are_no_turn_are_refused(self):
        for length in (1, 2, 3, 10, 59, 60):
            row = [1] * length
            for k in (-1, -2, -length, -length - 1, -61, -(10 ** 30),
                      length, length + 1, 2 * length, 61, 10 ** 30):
                with self.subTest(length=length, k=k):
                    with self.assertRaises(NoTurn):
                        turned(row, k)

    def test_the_greatest_turn_is_taken(self):
        for length in (1, 2, 3, 10, 59, 60):
            row = [0] * (length - 1) + [1]
            self.assertEqual(turned(row, length - 1), [1] + [0] * (length - 1))


class Beginnings(unittest.TestCase):
    def test_ordinary_rows(self):
        self.assertEqual(beginnings([1, 1, 1]), [1, 2, 3])
        self.assertEqual(beginnings([1, -2, 1, 1]), [1, -1, 0, 1])
        self.assertEqual(beginnings([0, 0, -60, 1]), [0, 0, -60, -59])
        self.assertEqual(beginnings([1, 0, 1, -1, 0]), [1, 1, 2, 1, 1])

    def test_a_row_of_one_number(self):
        self.assertEqual(beginnings([1]), [1])
        self.assertEqual(beginnings([0]), [0])
        self.assertEqual(beginnings([-60]), [-60])

    def test_long_rows(self):
        for row in long_rows():
            self.assertEqual(beginnings(row), plain_sums(row))


class Good(unittest.TestCase):
    def test_good_rows(self):
        for row in ([1], [1, 0], [1, 1], [1, 1, -1], [1, 0, 0, 0], [1, 1, -1, 1, -1], [1, 1, 1, -2, 0],
                    [1] * 59 + [-58], [1] + [0] * 59):
            with self.subTest(row=row):
                self.assertIs(good(row), True)

    def test_a_beginning_that_is_just_nought(self):
        for row in ([0], [0, 1], [0, 1, 1], [1, -1], [1, -1, 1, 1], [1, 1, -2, 1], [1, 1, 1, -3],
                    [1] * 59 + [-59]):
            with self.subTest(row=row):
                self.assertEqual(min(plain_sums(row)), 0)
                self.assertIs(good(row), False)

    def test_below_nought_only_at_the_end(self):
        for row in ([1, -2], [1, 1, -3], [1, 0, 1, -60], [1] * 59 + [-60]):
            with self.subTest(row=row):
                self.assertTrue(all(total > 0 for total in plain_sums(row)[:-1]))
                self.assertIs(good(row), False)

    def test_below_nought_only_in_the_middle(self):
        for row in ([1, -2, 1, 1], [1, 1, -3, 1, 1, 1], [1, 0, -2, 1, 1, 1, 0]):
            with self.subTest(row=row):
                sums = plain_sums(row)
                self.assertTrue(sums[0] > 0 and sums[-1] > 0)
                self.assertIs(good(row), False)

    def test_below_nought_at_the_first(self):
        for row in ([-1], [-60], [-1, 1, 1, 1]):
            with self.subTest(row=row):
                self.assertIs(good(row), False)


class Starts(unittest.TestCase):
    def test_rows_whose_sum_is_above_nought(self):
        self.assertEqual(starts([1]), [0])
        self.assertEqual(starts([1, 0]), [0])
        self.assertEqual(starts([0, 1]), [1])
        self.assertEqual(starts([1, 1, -1]), [0])
        self.assertEqual(starts([1, -1, 1]), [2])
        self.assertEqual(starts([-1, 1, 1]), [1])
        self.assertEqual(starts([1, 1, 0, 1, -1]), [0, 1])
        self.assertEqual(starts([1, -1, 1, 1, 0]), [2, 3])
        self.assertEqual(starts([1, -2, 1, 1, 1]), [2, 3])

    def test_starts_on_both_sides_of_the_end_still_rise(self):
        self.assertEqual(starts([1, -1, 0, 1, 1]), [3, 4])
        self.assertEqual(starts([1, 0, -1, 1, 1]), [3, 4])
        self.assertEqual(starts([1, 1, -1, 1]), [0, 3])

    def test_rows_whose_sum_is_just_nought_have_none(self):
        for row in ([0], [0, 0, 0], [1, -1], [-1, 1], [1, 1, -2], [0] * 60, [1, -1] * 30):
            with self.subTest(row=row):
                self.assertEqual(starts(row), [])

    def test_rows_whose_sum_is_below_nought_have_none(self):
        for row in ([-1], [-60], [1, -2], [1, 1, -3], [1] * 59 + [-60], [-60] * 60):
            with self.subTest(row=row):
                self.assertEqual(starts(row), [])

    def test_rows_that_repeat_themselves(self):
        self.assertEqual(starts([1, 1]), [0, 1])
        self.assertEqual(starts([1, 0, 1, 0]), [0, 2])
        self.assertEqual(starts([0, 1] * 30), list(range(1, 60, 2)))
        self.assertEqual(starts([1, 1, -1, 1, 1, -1]), [0, 3])
        self.assertEqual(starts([1, -1, 1] * 20), list(range(2, 60, 3)))

    def check_starts(self, row):
        told = starts(row)
        self.assertEqual(told, plain_starts(row))
        self.assertEqual(told, sorted(set(told)))
        self.assertEqual(len(told), max(0, sum(row)))
        for k in range(len(row)):
            self.assertIs(good(turned(row, k)), k in told)

    def test_all_short_rows(self):
        for length in range(1, 6):
            for numbers in itertools.product(range(-3, 2), repeat=length):
                self.check_starts(list(numbers))

    def test_long_rows(self):
        rows = list(long_rows())
        self.assertTrue(any(sum(row) > 1 for row in rows) and any(sum(row) < 0 for row in rows))
        for row in rows:
            with self.subTest(row=row):
                self.check_starts(row)


if __name__ == "__main__":
    unittest.main()
