"""Ideals by slow reckoning with fractions, on dicts from powers to coefficients."""

import itertools
from fractions import Fraction
from math import gcd

from helpers import poly
from papers import plus, times


def order(powers):
    """Greater powers first."""
    written = [variable for variable, many in powers for _ in range(many)]
    return -len(written), written


def lead(terms):
    return min(terms, key=order)


def less(powers, other):
    """What leads from other to powers, None if other does not divide them."""
    counts = dict(powers)
    for variable, many in other:
        counts[variable] = counts.get(variable, 0) - many
    if min(counts.values(), default=0) < 0:
        return None
    return tuple(sorted((variable, many) for variable, many in counts.items() if many))


def least_both(powers, other):
    counts = dict(powers)
    for variable, many in other:
        counts[variable] = max(many, counts.get(variable, 0))
    return tuple(sorted(counts.items()))


def rest_of(terms, basis):
    """What is left by division, all terms divided."""
    left = {powers: Fraction(number) for powers, number in terms.items()}
    rest = {}
    while left:
        head = lead(left)
        for other in basis:
            step = less(head, lead(other))
            if step is not None:
                left = plus(left, times({step: left[head] / other[lead(other)]}, other), -1)
                break
        else:
            rest[head] = left.pop(head)
    return rest


def cleared(terms):
    """Whole coefficients without a common factor, the first one above 0."""
    below = 1
    for number in terms.values():
        below = below * number.denominator // gcd(below, number.denominator)
    whole = {powers: int(number * below) for powers, number in terms.items()}
    common = gcd(*whole.values())
    if whole[lead(whole)] < 0:
        common = -common
    return {powers: number // common for powers, number in whole.items()}


def plain_basis(some):
    """The only basis, as the document says it: all overlaps, again and again."""
    basis = [{powers: Fraction(number) for powers, number in polynomial} for polynomial in some if polynomial]
    pairs = [(one, other) for one in range(len(basis)) for other in range(one)]
    while pairs:
        one, other = [basis[number] for number in pairs.pop(0)]
        met = least_both(lead(one), lead(other))
        left = plus(times({less(met, lead(one)): 1 / one[lead(one)]}, one), times({less(met, lead(other)): 1 / other[lead(other)]}, other), -1)
        rest = rest_of(left, basis)
        if rest:
            pairs.extend((number, len(basis)) for number in range(len(basis)))
            basis.append(rest)
    basis.sort(key=lambda terms: order(lead(terms)), reverse=True)
    least = []
    for terms in basis:
        if all(less(lead(terms), lead(other)) is None for other in least):
            least.append(terms)
    told = []
    for terms in least:
        rest = rest_of({powers: number for powers, number in terms.items() if powers != lead(terms)}, least)
        rest[lead(terms)] = terms[lead(terms)]
        told.append(cleared(rest))
    return tuple(tuple(sorted(terms.items())) for terms in told)


def is_sum(some, polynomial, many, factors):
    """Whether many times the polynomial is the sum of factors times some."""
    told = {}
    for factor, other in zip(factors, some):
        told = plus(told, times(dict(factor), dict(other)))
    return told == {powers: many * number for powers, number in polynomial}


def random_poly(choose, variables, degree, terms, most=9):
    return poly(*[(choose.choice((-1, 1)) * choose.randint(1, most),) +
                  tuple(choose.choice(variables) for _ in range(choose.randint(0, degree))) for _ in range(terms)])


def dense(choose, variables, degree, only=False, most=5):
    degrees = [degree] if only else range(degree + 1)
    return poly(*[(choose.choice((-1, 1)) * choose.randint(1, most),) + some
                  for many in degrees for some in itertools.combinations_with_replacement(variables, many)])


def chain(many, child=0, last=()):
    """Two polynomials the basis of which has many + 2: x x .. , x .. y v, .., y v .. y v and x u - y v."""
    x, y, u, v = [(child, room) for room in range(4)]
    return poly((1, x, u), (-1, y, v)), poly((1,) + (x,) * many + last)
