"""Texts as numbers: each text has a code, and each reader a number reader that tells the codes."""

from samewriting.errors import BadNumber, BadText, NotEven, OtherKinds, TooMany
from samewriting.evens import same_even_of
from samewriting.numbers import GREATEST, kept_of
from samewriting.packed import unit, unpacked
from samewriting.pieces import is_text
from samewriting.putting import check_bounds
from samewriting.readers import check_reader
from samewriting.sameness import check_reach, sameness_of
from samewriting.sets import check_set
from samewriting.values import is_whole

_MOST_CODED = 1000
_MOST_ROOMS = 4


def code(text):
    """4 ** (the length) and the number whose digits, base 4, are 1 for a, 2 for b, 3 for c."""
    if not is_text(text) or len(text) > _MOST_CODED:
        raise BadText(None)
    return _digits_after(1, text)


def _digits_after(number, letters):
    """The number with the digits of letters behind its own ones."""
    for letter in letters:
        number = number * 4 + "abc".index(letter) + 1
    return number


def decoded(number):
    """The text with this code."""
    if not is_whole(number) or number < 1 or number.bit_length() > 2 * _MOST_CODED + 1:
        raise BadNumber("no code")
    letters = []
    while number > 1:
        digit = number & 3
        if digit == 0:
            raise BadNumber("no code: a digit is 0")
        letters.append("abc"[digit - 1])
        number >>= 2
    # The power is a digit 1 ahead of all others.
    if number != 1:
        raise BadNumber("no code: another digit stands ahead")
    return "".join(reversed(letters))


class Coder:
    """Makes the polynomials of pieces, those of equal ones once."""

    def __init__(self):
        self.ready = {}

    def both_of(self, pieces):
        """The polynomials of the power and of the digits' number; TooMany for one beyond the bounds."""
        if pieces not in self.ready:
            told = _power_and_digits(pieces)
            self.ready[pieces] = tuple([_within(terms) for terms in told])
        return self.ready[pieces]

    def end_of(self, pieces):
        """The polynomial of the code, None for None."""
        if pieces is None:
            return None
        power, digits = _power_and_digits(pieces)
        for mono, number in power.items():
            digits[mono] = digits.get(mono, 0) + number
        return _within(digits)


def _power_and_digits(pieces):
    """The power of a text, and its digits' number, told by those of rooms: two packed polynomials."""
    mono = 0
    number = 1
    digits = {}
    # From the end on: what stands behind an item moves its digits ahead.
    for item in reversed(pieces):
        if item[0] == "say":
            told = _digits_after(0, item[1]) * number
            digits[mono] = digits.get(mono, 0) + told
            number *= 4 ** (len(item[1]) % 41)
        else:
            both = mono + unit(item[1], 2 * item[2] + 1)
            digits[both] = digits.get(both, 0) + number
            mono += unit(item[1], 2 * item[2])
    return {mono: number}, digits


def _within(terms):
    """The polynomial, TooMany if it is beyond the bounds."""
    check_bounds(terms)
    if max(list(terms.values()), default=0) > GREATEST:
        raise TooMany(GREATEST)
    return unpacked(terms)


def coded(reader):
    """The number reader that tells the codes of what the reader writes."""
    check_reader(reader)
    return _coded(reader)


def _coded(reader):
    if reader[2] > _MOST_ROOMS:
        raise TooMany(2 * _MOST_ROOMS)
    coder = Coder()
    rows = []
    for row in reader[3]:
        rows.append(tuple([tuple([polynomial for pieces in rooms for polynomial in coder.both_of(pieces)])
                           for rooms in row]))
    ends = tuple([coder.end_of(end) for end in reader[4]])
    return ("numbers", reader[1], 2 * reader[2], tuple(rows), ends)


def _check_texts(one, other, trees):
    """Raise BadReader for one, for other, BadSet, then OtherKinds."""
    check_reader(one)
    check_reader(other)
    check_set(trees)
    if one[1][1] != trees[1] or other[1][1] != trees[1]:
        raise OtherKinds("not the same kinds")


def _both_kept(one, other, trees):
    """Both as number readers that let by the trees in the set alone."""
    numbers = [_coded(one), _coded(other)]
    return [kept_of(reader, trees) for reader in numbers]


def same_texts(one, other, trees, degree, size):
    """Whether both let by the same trees of the set, and write the same out of these, as sameness tells it."""
    _check_texts(one, other, trees)
    check_reach(degree, size)
    first, second = _both_kept(one, other, trees)
    return sameness_of(first, second, degree, size)


def same_thin(one, other, trees):
    """As same_texts, of thin readers, as same_even tells it."""
    _check_texts(one, other, trees)
    if not _is_thin(one) or not _is_thin(other):
        raise NotEven("not thin")
    first, second = _both_kept(one, other, trees)
    return same_even_of(first, second)


def _is_thin(reader):
    """Whether no two items of some pieces are rooms of one child."""
    rows = [pieces for row in reader[3] for rooms in row for pieces in rooms]
    ends = [end for end in reader[4] if end is not None]
    return all([_has_each_child_once(pieces) for pieces in rows + ends])


def _has_each_child_once(pieces):
    children = [item[1] for item in pieces if item[0] == "room"]
    return len(set(children)) == len(children)
