"""Proofs that polynomials are of an ideal: each tells (k, factors), k times it is the sum of factors times given ones.

Factors are dicts from the number of a given one to a packed polynomial.
"""

from math import gcd, lcm

from samewriting.errors import TooMany
from samewriting.packed import add_times, trimmed
from samewriting.putting import MOST_TERMS

# Longer factors could be told by nobody, and take long to reckon.
_MOST_KEPT = 4000


def combined_proof(parts, scale, proofs):
    """The proof of a polynomial that, `scale` times, is the sum of parts times proven ones.

    The parts are pairs (packed polynomial, number of a proof); TooMany if factors get far too long.
    """
    many = 1
    for _, number in parts:
        many = lcm(many, proofs[number][0])
    factors = {}
    for part, number in parts:
        times, known = proofs[number]
        for given in known:
            told = factors.setdefault(given, {})
            for mono, worth in part.items():
                add_times(told, known[given], mono, worth * (many // times))
    factors = {given: trimmed(factors[given]) for given in factors}
    if sum([len(factors[given]) for given in factors]) > _MOST_KEPT:
        raise TooMany(MOST_TERMS)
    return _lowest(many * scale, factors)


def _lowest(many, factors):
    """The same without the common factor of all numbers, the first one above 0."""
    common = many
    for given in factors:
        for number in list(factors[given].values()):
            common = gcd(common, number)
    common = abs(common) if many > 0 else -abs(common)
    told = {given: _divided(factors[given], common) for given in factors}
    return many // common, told


def _divided(terms, number):
    return {mono: terms[mono] // number for mono in terms}
