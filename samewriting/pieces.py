"""Texts of letters a, b, c, and pieces: says and what stands for texts of children."""

from samewriting.errors import TooMany
from samewriting.values import is_between, is_row, is_word

MOST_ITEMS = 60
MOST_SAID = 40


def is_text(thing):
    """Whether any value is a string of letters a, b, c."""
    return isinstance(thing, str) and all([letter in "abc" for letter in thing])


def is_say(thing):
    """Whether any value is ("say", letters), 1 to 40 letters."""
    if not is_row(thing, 2) or not is_word(thing[0], "say"):
        return False
    return is_text(thing[1]) and 1 <= len(thing[1]) <= MOST_SAID


def are_pieces(thing, word, rank, rooms):
    """Whether any value is at most 60 says and (word, child, room), children and rooms below these."""
    if not isinstance(thing, tuple) or len(thing) > MOST_ITEMS:
        return False
    return all([is_say(item) or is_link(item, word, rank, rooms) for item in thing])


def is_link(thing, word, rank, rooms):
    """Whether any value is (word, child, room), child and room below these."""
    if not is_row(thing, 3) or not is_word(thing[0], word):
        return False
    return is_between(thing[1], 0, rank - 1) and is_between(thing[2], 0, rooms - 1)


def pressed(items):
    """The items with says next to one another put together, and cut after each 40 letters."""
    told = []
    letters = []
    for item in items:
        if item[0] == "say":
            letters.append(item[1])
        else:
            told.extend(_says("".join(letters)))
            told.append(item)
            letters = []
    told.extend(_says("".join(letters)))
    return tuple(told)


def _says(letters):
    return [("say", letters[begin:begin + MOST_SAID]) for begin in range(0, len(letters), MOST_SAID)]


def pressed_within(items):
    """As pressed; TooMany if more than 60 items are left."""
    told = pressed(items)
    if len(told) > MOST_ITEMS:
        raise TooMany(MOST_ITEMS)
    return told
