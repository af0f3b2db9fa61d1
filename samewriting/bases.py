"""Bases of ideals, and how their polynomials are made of given ones."""

from samewriting.basemaking import MOST_IN_BASIS
from samewriting.errors import BadPolynomials, TooMany
from samewriting.foreseeing import ALL, MANY, foreseen
from samewriting.judging import is_factored
from samewriting.polynomials import is_polynomial
from samewriting.putting import MOST_DEGREE, MOST_TERMS
from samewriting.rings import Ring
from samewriting.values import is_row
from samewriting.wholemaking import whole_made

_MOST_GIVEN = 8


def check_given(some):
    """Raise BadPolynomials unless this is a tuple of at most 8 polynomials."""
    if not isinstance(some, tuple) or len(some) > _MOST_GIVEN:
        raise BadPolynomials("no tuple of at most 8")
    if not all([is_polynomial(polynomial) for polynomial in some]):
        raise BadPolynomials("not all are polynomials")


def ring_of(some):
    """The ring of the variables of some polynomials."""
    return Ring(sorted({variable for polynomial in some for powers, _ in polynomial for variable, _ in powers}))


def basis_of(some):
    """The only basis with the ideal of some in which no first term divides any powers of another one."""
    check_given(some)
    ring = ring_of(some)
    return basis_told(ring, [ring.packed(polynomial) for polynomial in some])


def basis_told(ring, given):
    """As basis_of, of packed polynomials."""
    basis = basis_made(ring, given)
    for terms in basis:
        check_packed(ring, terms)
    return tuple([ring.unpacked(terms) for terms in basis])


def basis_made(ring, given):
    """The packed polynomials of the only basis, in order; TooMany if it has more than 60."""
    seen = foreseen(ring, given)
    if seen == ALL:
        return [{0: 1}]
    basis = None if seen == MANY else whole_made(ring, given, False)
    if basis is None or len(basis) > MOST_IN_BASIS:
        raise TooMany(MOST_IN_BASIS)
    return [terms for terms, _ in basis]


def check_packed(ring, terms):
    """Raise TooMany if a packed polynomial is beyond the bounds."""
    if ring.highest_degree(terms) > MOST_DEGREE:
        raise TooMany(MOST_DEGREE)
    if len(terms) > MOST_TERMS:
        raise TooMany(MOST_TERMS)


def shown(some):
    """For each polynomial of basis_of(some) a pair (k, factors): k times it is the sum of factors times some."""
    basis_of(some)
    ring = ring_of(some)
    proven = whole_made(ring, [ring.packed(polynomial) for polynomial in some], True)
    return tuple([proof_told(ring, proof, len(some)) for _, proof in proven])


def proof_told(ring, proof, many):
    """The pair (k, factors) of a proof; TooMany if a factor is beyond the bounds."""
    factors = [proof[1].get(number, {}) for number in range(many)]
    for factor in factors:
        check_packed(ring, factor)
    return proof[0], tuple([ring.unpacked(factor) for factor in factors])


def is_shown(some, thing):
    """Whether any value tells for each polynomial of basis_of(some) how it is made of some."""
    basis = basis_of(some)
    if not is_row(thing, len(basis)):
        return False
    return all([is_row(pair, 2) and is_factored(some, polynomial, pair[0], pair[1])
                for polynomial, pair in zip(basis, thing)])
