"""Words with the same boughs' counts: how many there are, and their order."""

from turnrow.errors import NoSuch
from turnrow.groves import check_word


def counts_of(word):
    check_word(word)
    counts = [0] * (max(word) + 1)
    for number in word:
        counts[number] = counts[number] + 1
    return counts


def trees_of(counts):
    return sum([count * (1 - place) for place, count in enumerate(counts)])


def product_to(number):
    product = 1
    for factor in range(2, number + 1):
        product = product * factor
    return product


def lists_with(counts):
    lists = product_to(sum(counts))
    for count in counts:
        lists = lists // product_to(count)
    return lists


def how_many(counts):
    trees = trees_of(counts)
    if trees < 1 or min(counts) < 0:
        return 0
    return trees * lists_with(counts) // sum(counts)


def without(counts, number):
    return counts[:number] + [counts[number] - 1] + counts[number + 1:]


def begun_with(left, number):
    # What stands behind any place of a word is a word again, or nothing: so the rest is counted as words are.
    if left[number] == 0:
        return 0
    rest = without(left, number)
    return 1 if sum(rest) == 0 else how_many(rest)


def number_of(word):
    left = counts_of(word)
    ahead = 0
    for number in word:
        ahead = ahead + sum([begun_with(left, lesser) for lesser in range(number)])
        left = without(left, number)
    return ahead


def next_number(left, ahead):
    # Tells the number that stands next, and how many of the words that have it there are ahead.
    number = 0
    begun = begun_with(left, number)
    while ahead >= begun:
        ahead = ahead - begun
        number = number + 1
        begun = begun_with(left, number)
    return (number, ahead)


def word_at(counts, number):
    # The error doesn't show the refused number: Python does not write out very long ones.
    if not 0 <= number < how_many(counts):
        raise NoSuch("a word's number is from nought to one less than there are words")
    word = []
    left = list(counts)
    ahead = number
    while sum(left) > 0:
        found = next_number(left, ahead)
        word.append(found[0])
        ahead = found[1]
        left = without(left, found[0])
    return word


def all_words(counts):
    return [word_at(counts, number) for number in range(how_many(counts))]
