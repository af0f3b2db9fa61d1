"""Putting polynomials into one another where what comes might be far too long to write.

What is told is exact. But that a result has a degree above 40, or more than 400 terms, need not be
worked out: remainders by a prime, with numbers in the place of variables, show it if they are not 0.
"""

from samewriting.errors import TooMany
from samewriting.packed import degree_packed, highest_degree, packed_powers, powers_packed, put, trimmed, unit

MOST_DEGREE = 40
MOST_TERMS = 400
PRIME = 2305843009213693951
EASY = 100000


def put_within(polynomial, worths):
    """As put; TooMany for a result of a degree above 40, then for one of more than 400 terms."""
    highest = formal_degree(polynomial, worths)
    if highest > MOST_DEGREE and has_degree(polynomial, worths, highest):
        raise TooMany(MOST_DEGREE)
    is_long = highest <= MOST_DEGREE and putting_cost(polynomial, worths) > EASY
    if is_long and has_more_terms(polynomial, worths, MOST_TERMS):
        raise TooMany(MOST_TERMS)
    told = put(polynomial, worths)
    check_bounds(told)
    return told


def check_bounds(terms):
    """Raise TooMany for a packed polynomial of too high a degree, then for one of too many terms."""
    if highest_degree(terms) > MOST_DEGREE:
        raise TooMany(MOST_DEGREE)
    if len(terms) > MOST_TERMS:
        raise TooMany(MOST_TERMS)


def formal_degree(polynomial, worths):
    """The highest degree that a term comes to: that of the result, if what is so high does not go."""
    return max([_degree_put(powers, worths) for powers, _ in polynomial], default=0)


def has_degree(polynomial, worths, highest):
    """Whether the result surely has the formal degree."""
    top = [(powers, number) for powers, number in polynomial if _degree_put(powers, worths) == highest]
    return remainder_put(top, {variable: _top_of(worths[variable]) for variable in worths}) != 0


def _degree_put(powers, worths):
    """The degree that powers come to, -1 if they come to 0."""
    told = 0
    for variable, power in powers:
        if variable not in worths:
            told += power
        elif not worths[variable]:
            return -1
        else:
            told += power * highest_degree(worths[variable])
    return told


def putting_cost(polynomial, worths):
    """About how many terms come ahead of adding up, at most a million for each term."""
    told = 0
    for powers, _ in polynomial:
        terms = 1
        for variable, power in powers:
            if variable in worths:
                for _ in range(power):
                    terms = min(terms * len(worths[variable]), 1000000)
        told += terms
    return told


def _top_of(terms):
    """The terms of the highest degree."""
    highest = highest_degree(terms)
    return {mono: terms[mono] for mono in terms if degree_packed(mono) == highest}


def _number_at(variable):
    """The number for a variable where remainders are taken: these are far from one another."""
    return (variable[0] * 16 + variable[1] + 5) ** 29 % PRIME


def remainder_of(terms):
    """The remainder of a packed polynomial there, all powers at most 40."""
    told = 0
    for mono in terms:
        told += terms[mono] * _remainder_of_powers(powers_packed(mono))
    return told % PRIME


def _remainder_of_powers(powers):
    told = 1
    for variable, power in powers:
        told = told * _number_at(variable) ** (int(power) % 41) % PRIME
    return told


def remainder_put(polynomial, worths):
    """The remainder there of the polynomial with packed ones put in."""
    numbers = {variable: remainder_of(worths[variable]) for variable in worths}
    told = 0
    for powers, number in polynomial:
        worth = number
        for variable, power in powers:
            base = numbers[variable] if variable in numbers else _number_at(variable)
            worth = worth * base ** (int(power) % 41) % PRIME
        told += worth
    return told % PRIME


def has_more_terms(polynomial, worths, most):
    """Whether the result surely has more terms.

    With numbers in the place of some variables no polynomial gets more terms: so the variables are
    let in one by one, and what is far too long is seen while it is still short.
    """
    whole = [variable for powers, _ in polynomial for variable, _ in powers]
    full = {variable: worths.get(variable, {unit(variable[0], variable[1]): 1}) for variable in whole}
    used = sorted({variable for key in full for mono in full[key] for variable, _ in powers_packed(mono)})
    for many in range(1, len(used)):
        images = {key: _image(full[key], used[:many]) for key in full}
        if len(put(polynomial, images, PRIME)) > most:
            return True
    return False


def _image(terms, kept):
    """The polynomial with numbers in the place of all variables but the kept ones, remainders only."""
    told = {}
    for mono in terms:
        powers = powers_packed(mono)
        left = packed_powers([pair for pair in powers if pair[0] in kept])
        number = _remainder_of_powers([pair for pair in powers if pair[0] not in kept])
        told[left] = told.get(left, 0) + terms[mono] * number
    return trimmed(told, PRIME)
