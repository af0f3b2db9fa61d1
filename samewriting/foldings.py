"""What readers of trees have in common: a set, rooms, rows of what the rooms hold, ends."""

from samewriting.sets import is_set
from samewriting.values import is_between, is_row, is_word


def is_folding(thing, word, fits):
    """Whether any value is (word, trees, rooms, rows, ends).

    What a room holds, and an end for one child, are told right by fits(value, children, rooms).
    """
    if not is_row(thing, 5) or not is_word(thing[0], word):
        return False
    trees, rooms, rows, ends = thing[1:]
    if not is_set(trees) or not is_between(rooms, 1, 8):
        return False
    if not is_row(rows, len(trees[1])) or not is_row(ends, trees[2]):
        return False
    for pair, row, goals in zip(trees[1], rows, trees[3]):
        if not is_row(row, len(goals)) or not all([is_row(held, rooms) for held in row]):
            return False
        if not all([fits(value, pair[1], rooms) for held in row for value in held]):
            return False
    return all([end is None or fits(end, 1, rooms) for end in ends])
