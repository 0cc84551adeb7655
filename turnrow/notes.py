"""Groves written as texts of brackets, and read back."""

from turnrow.errors import NoText

MOST_NODES = 60


def shown(grove):
    # A list of what waits, and no call within a call: a tree may be deep. None stands for a closing bracket.
    signs = []
    waiting = list(reversed(grove))
    while len(waiting) > 0:
        tree = waiting.pop()
        if tree is None:
            signs.append(")")
        else:
            signs.append("(")
            waiting.append(None)
            waiting.extend(list(reversed(tree)))
    return "".join(signs)


def read(text):
    if not 1 <= text.count("(") <= MOST_NODES:
        raise NoText(f"a grove has 1 to {MOST_NODES} nodes")
    # The grove's own list stands first, and behind it one list of boughs for each bracket still open.
    opened = [[]]
    for sign in text:
        if sign == "(":
            opened.append([])
        elif sign == ")" and len(opened) > 1:
            boughs = opened.pop()
            opened[-1].append(tuple(boughs))
        else:
            raise NoText("a text has fitting brackets and no other sign")
    if len(opened) > 1:
        raise NoText("a bracket is not closed")
    return opened[0]
