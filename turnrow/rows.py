"""Rows of whole numbers: their turns, their beginnings, and the turns that are good."""

from turnrow.errors import BadRow, NoTurn

MOST_NUMBERS = 60
LEAST_NUMBER = -60
GREATEST_NUMBER = 1


def check_row(row):
    # Errors don't show the refused number: Python does not write out very long ones.
    if not 1 <= len(row) <= MOST_NUMBERS:
        raise BadRow(f"a row has 1 to {MOST_NUMBERS} numbers")
    for number in row:
        if not LEAST_NUMBER <= number <= GREATEST_NUMBER:
            raise BadRow(f"a row's numbers are from {LEAST_NUMBER} to {GREATEST_NUMBER}")


def turned(row, k):
    # A list that is no row has no turns to speak of, so BadRow comes ahead of NoTurn.
    check_row(row)
    if not 0 <= k < len(row):
        raise NoTurn("a row is turned by nought to one less than its length")
    return row[k:] + row[:k]


def beginnings(row):
    check_row(row)
    sums = []
    total = 0
    for number in row:
        total = total + number
        sums.append(total)
    return sums


def good(row):
    return min(beginnings(row)) > 0


def starts(row):
    check_row(row)
    return [k for k in range(len(row)) if good(turned(row, k))]
