"""Polynomials with whole coefficients, in variables (child, room)."""

from math import gcd

from samewriting.errors import BadNumber, BadPolynomial, BadWorths, TooMany
from samewriting.packed import multiplied, packed, packed_powers, unpacked
from samewriting.putting import MOST_DEGREE, MOST_TERMS, check_bounds, put_within
from samewriting.values import is_between, is_rising, is_row, is_whole


def is_variable(thing):
    """Whether any value is a variable."""
    return is_row(thing, 2) and is_between(thing[0], 0, 3) and is_between(thing[1], 0, 15)


def is_polynomial(thing):
    """Whether any value is a polynomial."""
    if not isinstance(thing, tuple) or len(thing) > MOST_TERMS:
        return False
    if not all([_is_term(term) for term in thing]):
        return False
    return is_rising([powers for powers, _ in thing])


def _is_term(thing):
    return is_row(thing, 2) and _is_powers(thing[0]) and is_whole(thing[1]) and thing[1] != 0


def _is_powers(thing):
    if not isinstance(thing, tuple) or len(thing) > MOST_DEGREE:
        return False
    for pair in thing:
        if not is_row(pair, 2) or not is_variable(pair[0]) or not is_between(pair[1], 1, MOST_DEGREE):
            return False
    return is_rising([variable for variable, _ in thing]) and _degree(thing) <= MOST_DEGREE


def _degree(powers):
    return sum([power for _, power in powers])


def check_polynomial(polynomial):
    """Raise BadPolynomial unless this is a polynomial."""
    if not is_polynomial(polynomial):
        raise BadPolynomial("no polynomial")


def variables_of(polynomial):
    """The variables of a polynomial, ascending."""
    check_polynomial(polynomial)
    return tuple(sorted({variable for powers, _ in polynomial for variable, _ in powers}))


def degree_of(polynomial):
    """The highest degree of its powers, 0 for the polynomial ()."""
    check_polynomial(polynomial)
    return max([_degree(powers) for powers, _ in polynomial], default=0)


def first_term(polynomial):
    """The term of the greatest powers, None for the polynomial ()."""
    check_polynomial(polynomial)
    return _greatest(polynomial)


def _greatest(polynomial):
    if not polynomial:
        return None
    return max([(packed_powers(term[0]), term) for term in polynomial])[1]


def plus(one, other):
    """The sum."""
    check_polynomial(one)
    check_polynomial(other)
    numbers = dict(one)
    for powers, number in other:
        numbers[powers] = numbers.get(powers, 0) + number
    told = sorted([(powers, numbers[powers]) for powers in numbers if numbers[powers]])
    if len(told) > MOST_TERMS:
        raise TooMany(MOST_TERMS)
    return tuple(told)


def times(one, other):
    """The product."""
    check_polynomial(one)
    check_polynomial(other)
    if one and other and degree_of(one) + degree_of(other) > MOST_DEGREE:
        raise TooMany(MOST_DEGREE)
    told = multiplied(packed(one), packed(other))
    check_bounds(told)
    return unpacked(told)


def scaled(polynomial, number):
    """A number times the polynomial."""
    check_polynomial(polynomial)
    if not is_whole(number):
        raise BadNumber("no whole number")
    if number == 0:
        return ()
    return tuple([(powers, worth * number) for powers, worth in polynomial])


def cleared(polynomial):
    """The polynomial without the common factor of its coefficients, that of its first term above 0."""
    check_polynomial(polynomial)
    return cleared_of(polynomial)


def cleared_of(polynomial):
    """As cleared, of what may have more terms or a higher degree."""
    if not polynomial:
        return ()
    common = 0
    for _, number in polynomial:
        common = gcd(common, number)
    if _greatest(polynomial)[1] < 0:
        common = -common
    return tuple([(powers, number // common) for powers, number in polynomial])


def put_in(polynomial, worths):
    """The polynomial with polynomials in the place of variables, all at once."""
    check_polynomial(polynomial)
    if not _is_worths(worths) or not all([is_polynomial(pair[1]) for pair in worths]):
        raise BadWorths("no polynomials by variables")
    return unpacked(put_within(polynomial, {variable: packed(worth) for variable, worth in worths}))


def _is_worths(thing):
    if not isinstance(thing, tuple):
        return False
    if not all([is_row(pair, 2) and is_variable(pair[0]) for pair in thing]):
        return False
    return is_rising([variable for variable, _ in thing])


def value_at(polynomial, worths):
    """The number that the polynomial is with numbers in the place of its variables."""
    check_polynomial(polynomial)
    if not _is_worths(worths) or not all([is_whole(pair[1]) for pair in worths]):
        raise BadWorths("no numbers by variables")
    numbers = dict(worths)
    if not all([variable in numbers for variable in variables_of(polynomial)]):
        raise BadWorths("a variable has no number")
    total = 0
    for powers, number in polynomial:
        worth = number
        for variable, power in powers:
            worth *= numbers[variable] ** (int(power) % 41)
        total += worth
    return total
