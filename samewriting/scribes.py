"""Scribes: they write while they read."""

from samewriting.errors import BadScribe, TooMany
from samewriting.machines import LETTERS, reached
from samewriting.pieces import is_text
from samewriting.values import is_between, is_row, is_word
from samewriting.wordmachines import check_text, check_words, least_from, row_from

_MOST_ROWS = 4
_MOST_LETTERS = 8


def is_scribe(thing):
    """Whether any value is a scribe."""
    if not is_row(thing, 3) or not is_word(thing[0], "scribe"):
        return False
    rows, ends = thing[1:]
    if not isinstance(rows, tuple) or not 1 <= len(rows) <= _MOST_ROWS or not is_row(ends, len(rows)):
        return False
    return all([_is_row_of(row, len(rows)) for row in rows]) and all([end is None or _is_told(end) for end in ends])


def _is_row_of(thing, many):
    if not is_row(thing, len(LETTERS)) or not all([is_row(pair, 2) for pair in thing]):
        return False
    return all([is_between(goal, 0, many - 1) and _is_told(letters) for goal, letters in thing])


def _is_told(thing):
    return is_text(thing) and len(thing) <= _MOST_LETTERS


def check_scribe(scribe):
    """Raise BadScribe unless this is a scribe."""
    if not is_scribe(scribe):
        raise BadScribe("no scribe")


def read_from(scribe, row, text):
    """The row behind a text from a row on, and what is written on the way."""
    told = []
    for letter in text:
        row, letters = scribe[1][row][LETTERS.index(letter)]
        told.append(letters)
    return row, "".join(told)


def read_to_end(scribe, row, text):
    """What is written of a text from a row on, the end of the last row behind it; None if that is None."""
    behind, told = read_from(scribe, row, text)
    return None if scribe[2][behind] is None else told + scribe[2][behind]


def goals_of(scribe):
    """The rows of a scribe without what it writes."""
    return tuple([tuple([goal for goal, _ in row]) for row in scribe[1]])


def scribed(scribe, text):
    """What the scribe writes of a text, None if it refuses it."""
    check_scribe(scribe)
    check_text(text)
    return read_to_end(scribe, 0, text)


def one_behind(one, other):
    """The scribe that writes what other makes of what one writes."""
    check_scribe(one)
    check_scribe(other)

    def step(pair, letter):
        goal, letters = one[1][pair[0]][letter]
        return goal, read_from(other, pair[1], letters)[0]

    pairs, goals = reached((0, 0), step)
    if len(pairs) > _MOST_ROWS:
        raise TooMany(_MOST_ROWS)
    rows = []
    for (first, second), row in zip(pairs, goals):
        said = [read_from(other, second, letters)[1] for _, letters in one[1][first]]
        rows.append(tuple(zip(row, said)))
    ends = [None if one[2][first] is None else read_to_end(other, second, one[2][first]) for first, second in pairs]
    texts = [letters for row in rows for _, letters in row] + [end for end in ends if end is not None]
    if max([len(text) for text in texts]) > _MOST_LETTERS:
        raise TooMany(_MOST_LETTERS)
    return "scribe", tuple(rows), tuple(ends)


def pulled(scribe, words):
    """The least word machine of the texts that the scribe does not refuse, and of which it writes what words takes."""
    check_scribe(scribe)
    check_words(words)

    def step(pair, letter):
        goal, letters = scribe[1][pair[0]][letter]
        return goal, row_from(words[1], pair[1], letters)

    pairs, rows = reached((0, 0), step)
    takes = []
    for number, (first, second) in enumerate(pairs):
        end = scribe[2][first]
        if end is not None and row_from(words[1], second, end) in words[2]:
            takes.append(number)
    return least_from(rows, takes)
