"""Word machines: they read texts, letter by letter, and take some of them."""

from samewriting.errors import BadText, BadWords, TooMany
from samewriting.machines import LETTERS, least_machine, reached
from samewriting.pieces import is_text
from samewriting.values import is_between, is_rising_below, is_row, is_word

MOST_ROWS = 8


def is_words(thing):
    """Whether any value is a word machine."""
    if not is_row(thing, 3) or not is_word(thing[0], "words"):
        return False
    rows, takes = thing[1:]
    if not isinstance(rows, tuple) or not 1 <= len(rows) <= MOST_ROWS:
        return False
    return all([_is_row_below(row, len(rows)) for row in rows]) and is_rising_below(takes, len(rows))


def _is_row_below(thing, many):
    return is_row(thing, len(LETTERS)) and all([is_between(goal, 0, many - 1) for goal in thing])


def check_words(words):
    """Raise BadWords unless this is a word machine."""
    if not is_words(words):
        raise BadWords("no word machine")


def check_text(text):
    """Raise BadText unless this is a text."""
    if not is_text(text):
        raise BadText(None)


def row_from(rows, row, text):
    """The row behind a text, from a row on."""
    for letter in text:
        row = rows[row][LETTERS.index(letter)]
    return row


def row_behind(words, text):
    """The row behind a text."""
    check_words(words)
    check_text(text)
    return row_from(words[1], 0, text)


def takes_text(words, text):
    """Whether a text is taken."""
    return row_behind(words, text) in words[2]


def effect(words, text):
    """For each row the row behind the text from there on."""
    check_words(words)
    check_text(text)
    return tuple([row_from(words[1], row, text) for row in range(len(words[1]))])


def least_words(words):
    """The word machine of the same texts with the fewest rows."""
    check_words(words)
    return least_from(words[1], words[2])


def least_from(rows, takes):
    """The least word machine of some rows and takes; TooMany if it has more than 8 rows."""
    told, own = least_machine(rows, takes)
    if len(told) > MOST_ROWS:
        raise TooMany(MOST_ROWS)
    return "words", told, own


def words_not(words):
    """The least word machine of just the other texts."""
    check_words(words)
    return least_from(words[1], [row for row in range(len(words[1])) if row not in words[2]])


def words_both(one, other):
    """The least word machine of the texts that both take."""
    check_words(one)
    check_words(other)

    def step(pair, letter):
        return one[1][pair[0]][letter], other[1][pair[1]][letter]

    pairs, rows = reached((0, 0), step)
    takes = [number for number, (first, second) in enumerate(pairs) if first in one[2] and second in other[2]]
    return least_from(rows, takes)


def just(text):
    """The least word machine of just this text."""
    check_text(text)
    # One row for each letter to come, one for the end, and one for all that is not so.
    if len(text) + 2 > MOST_ROWS:
        raise TooMany(MOST_ROWS)
    rows = []
    for place, letter in enumerate(text):
        rows.append(tuple([place + 1 if own == letter else len(text) + 1 for own in LETTERS]))
    rows.extend([(len(text) + 1,) * len(LETTERS)] * 2)
    return least_from(rows, [len(text)])
