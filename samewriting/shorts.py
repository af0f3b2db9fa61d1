"""Shorts: texts, as long as can be, told by rows that put earlier ones together."""

from samewriting.errors import BadIndex, BadShort, BadStretch, BadWord, TooMany
from samewriting.pieces import MOST_SAID, is_text
from samewriting.rowtexts import RowTexts, WordFinder
from samewriting.values import is_between, is_row, is_whole, is_word

MOST_ROWS = 4000
_MOST_STRETCH = 1000
_MOST_IN_WORD = 20


def is_short(thing):
    """Whether any value is a short."""
    if not is_row(thing, 2) or not is_word(thing[0], "short"):
        return False
    rows = thing[1]
    if not isinstance(rows, tuple) or not 1 <= len(rows) <= MOST_ROWS:
        return False
    return all([_is_row_at(row, place) for place, row in enumerate(rows)])


def _is_row_at(thing, place):
    if is_row(thing, 2) and is_word(thing[0], "say"):
        return is_text(thing[1]) and len(thing[1]) <= MOST_SAID
    if not is_row(thing, 3) or not is_word(thing[0], "then"):
        return False
    return is_between(thing[1], 0, place - 1) and is_between(thing[2], 0, place - 1)


def check_short(short):
    """Raise BadShort unless this is a short."""
    if not is_short(short):
        raise BadShort("no short")


def length(short):
    """How many letters its text has."""
    check_short(short)
    return RowTexts(short[1]).lengths[-1]


def tally(short):
    """How often a, b and c stand in its text."""
    check_short(short)
    told = []
    for row in short[1]:
        if row[0] == "say":
            told.append(tuple([row[1].count(letter) for letter in "abc"]))
        else:
            told.append(tuple([one + other for one, other in zip(told[row[1]], told[row[2]])]))
    return told[-1]


def letter_at(short, index):
    """The letter at an index."""
    check_short(short)
    texts = RowTexts(short[1])
    if not is_between(index, 0, texts.lengths[-1] - 1):
        raise BadIndex("no letter there")
    return texts.stretch(index, index + 1)


def _texts_with(short, begin, end):
    """The texts of the rows of a short; BadStretch unless the stretch is in the last one."""
    texts = RowTexts(short[1])
    if not is_whole(begin) or not is_whole(end) or not 0 <= begin <= end <= texts.lengths[-1]:
        raise BadStretch("no such stretch")
    return texts


def stretch_of(short, begin, end):
    """The letters from begin on, ahead of end."""
    check_short(short)
    texts = _texts_with(short, begin, end)
    if end - begin > _MOST_STRETCH:
        raise TooMany(_MOST_STRETCH)
    return texts.stretch(begin, end)


def cut_out(short, begin, end):
    """A short of the letters from begin on, ahead of end."""
    check_short(short)
    rows = _texts_with(short, begin, end).cut_out(begin, end)
    if len(rows) > MOST_ROWS:
        raise TooMany(MOST_ROWS)
    return ("short", rows)


def turned_about(short):
    """The short that tells, row by row, the texts from their ends to their beginnings."""
    check_short(short)
    return ("short", tuple([_turned(row) for row in short[1]]))


def _turned(row):
    return ("say", row[1][::-1]) if row[0] == "say" else ("then", row[2], row[1])


def behind(one, other):
    """A short of the text of one and, behind it, that of other."""
    check_short(one)
    check_short(other)
    many = len(one[1])
    if many + len(other[1]) >= MOST_ROWS:
        raise TooMany(MOST_ROWS)
    moved = tuple([row if row[0] == "say" else ("then", row[1] + many, row[2] + many) for row in other[1]])
    return ("short", one[1] + moved + (("then", many - 1, many + len(moved) - 1),))


def times_in(short, word):
    """At how many indexes a word stands."""
    return _finder_of(short, word).times


def first_in(short, word):
    """The least index at which a word stands, None if there is none."""
    return _finder_of(short, word).first


def _finder_of(short, word):
    check_short(short)
    if not is_text(word) or not 1 <= len(word) <= _MOST_IN_WORD:
        raise BadWord("not from 1 to 20 letters a, b, c")
    return WordFinder(short[1], word)
