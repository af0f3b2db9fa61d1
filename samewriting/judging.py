"""Judging by multiplying out whether factors times polynomials are a number times another one."""

from samewriting.packed import add_times, packed, trimmed
from samewriting.polynomials import is_polynomial
from samewriting.putting import PRIME, remainder_of
from samewriting.values import is_row, is_whole


def is_factored(some, polynomial, many, factors):
    """Whether `many`, any value from 1 on, times the polynomial is the sum of factors, any value, times some."""
    if not is_whole(many) or many < 1 or not is_row(factors, len(some)):
        return False
    if not all([is_polynomial(factor) for factor in factors]):
        return False
    goal = packed(polynomial)
    pairs = [(packed(factor), packed(other)) for factor, other in zip(factors, some)]
    # A remainder that is not the same tells long ones apart at once.
    told = sum([remainder_of(factor) * remainder_of(other) for factor, other in pairs])
    return (told - many * remainder_of(goal)) % PRIME == 0 and _summed(pairs) == _times(goal, many)


def _summed(pairs):
    told = {}
    for factor, other in pairs:
        for mono, number in factor.items():
            add_times(told, other, mono, number)
    return trimmed(told)


def _times(terms, number):
    return {mono: terms[mono] * number for mono in terms}
