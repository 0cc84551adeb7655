"""Groves: lists of trees, and the words that tell them."""

from turnrow.errors import NoWord


def is_word(numbers):
    # The row of 1 - c, from the last to the first, is to be good. rows.good is not asked for it: that refuses
    # with BadRow what is no row, and such a list is not refused in that way here.
    trees = 0
    for number in reversed(numbers):
        trees = trees + 1 - number
        if number < 0 or trees < 1:
            return False
    return trees > 0


def check_word(word):
    if not is_word(word):
        raise NoWord("the list is no word of a grove")


def word_of(grove):
    # A list of what waits, and no call within a call: a tree may be deep.
    word = []
    waiting = list(reversed(grove))
    while len(waiting) > 0:
        tree = waiting.pop()
        word.append(len(tree))
        waiting.extend(list(reversed(tree)))
    return word


def grove_of(word):
    check_word(word)
    # From the last number to the first, so that a node's boughs are there ahead of it; the nearest stands last.
    trees = []
    for boughs in reversed(word):
        rest = len(trees) - boughs
        tree = tuple(reversed(trees[rest:]))
        trees = trees[:rest] + [tree]
    return list(reversed(trees))


def words_among(numbers):
    return [k for k in range(len(numbers)) if is_word(numbers[k:] + numbers[:k])]
