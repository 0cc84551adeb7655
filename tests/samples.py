"""Groves to test with, and slow, plain ways to tell what the program should answer."""

import functools
import itertools


def chain(depth):
    tree = ()
    for step in range(depth - 1):
        tree = (tree,)
    return tree


def uneven_grove(nodes, shift):
    # A fixed, uneven run of choices: the tests are to be the same each time.
    state = shift
    trees = []
    for step in range(nodes):
        state = (state * 1103515245 + 12345) % 2147483648
        boughs = (state // 65536) % 4 % (len(trees) + 1)
        cut = len(trees) - boughs
        trees = trees[:cut] + [tuple(trees[cut:])]
    return trees


GROVES = {
    "one node": [()],
    "the document's": [((), ()), ()],
    "two levels": [((), ((),), ()), ((),)],
    "twins": [((),), ((),)],
    "one tree 60 deep": [chain(60)],
    "one tree of 59 boughs": [((),) * 59],
    "60 trees": [()] * 60,
    "30 trees of two": [((),)] * 30,
    "two chains": [chain(30), chain(30)],
    "a chain on a broad tree": [((),) * 20 + (chain(19),) + ((),) * 20],
}
GROVES.update({f"uneven {shift}": uneven_grove(60, shift) for shift in range(1, 9)})


def is_tree(tree):
    return type(tree) is tuple and all(is_tree(bough) for bough in tree)


def plain_word(trees):
    word = []
    for tree in trees:
        word = word + [len(tree)] + plain_word(tree)
    return word


def plain_text(trees):
    return "".join("(" + plain_text(tree) + ")" for tree in trees)


@functools.lru_cache(maxsize=None)
def groves_with(nodes):
    """All groves of so many nodes, as tuples of trees."""
    if nodes == 0:
        return [()]
    return [(boughs,) + others
            for first in range(1, nodes + 1)
            for boughs in groves_with(first - 1)
            for others in groves_with(nodes - first)]


def small_groves(most):
    return [list(grove) for nodes in range(1, most + 1) for grove in groves_with(nodes)]


def said_to_be_word(numbers):
    """Promise [7], word for word."""
    row = [1 - number for number in reversed(numbers)]
    sums = [sum(row[:end]) for end in range(1, len(row) + 1)]
    return len(numbers) > 0 and min(numbers) >= 0 and min(sums) > 0


def turn(numbers, k):
    return numbers[k:] + numbers[:k]


def plain_counts(word):
    return [word.count(number) for number in range(max(word) + 1)]


def small_counts(most):
    """All counts of 1 to 6 places, some with noughts at the end, with sums from 1 to `most`."""
    for places in range(1, 7):
        for counts in itertools.product(range(most + 1), repeat=places):
            if 1 <= sum(counts) <= most:
                yield list(counts)


@functools.lru_cache(maxsize=None)
def words_ending(counts):
    """How many words have these counts, found number by number and not by [9]."""
    if sum(counts) == 0:
        return 1
    if sum(count * (1 - place) for place, count in enumerate(counts)) < 1:
        return 0
    return sum(words_ending(less(counts, number)) for number, count in enumerate(counts) if count > 0)


def less(counts, number):
    return counts[:number] + (counts[number] - 1,) + counts[number + 1:]


def plain_number(word):
    left = tuple(plain_counts(word))
    ahead = 0
    for number in word:
        ahead += sum(words_ending(less(left, lesser)) for lesser in range(number) if left[lesser] > 0)
        left = less(left, number)
    return ahead
