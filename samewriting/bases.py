"""Bases of ideals, and how their polynomials are made of given ones."""

from samewriting.basemaking import MOST_IN_BASIS, is_all, remainders_made
from samewriting.errors import BadPolynomials, TooMany
from samewriting.judging import is_factored
from samewriting.polynomials import is_polynomial
from samewriting.putting import MOST_DEGREE, MOST_TERMS
from samewriting.rings import Ring
from samewriting.values import is_row
from samewriting.wholemaking import whole_made

_MOST_GIVEN = 8


def check_given(some):
    """Raise BadPolynomials unless this is a tuple of at most 8 polynomials."""
    if not isinstance(some, tuple) or len(some) > _MOST_GIVEN:
        raise BadPolynomials("no tuple of at most 8")
    if not all([is_polynomial(polynomial) for polynomial in some]):
        raise BadPolynomials("not all are polynomials")


def ring_of(some):
    """The ring of the variables of some polynomials."""
    return Ring(sorted({variable for polynomial in some for powers, _ in polynomial for variable, _ in powers}))


def basis_of(some):
    """The only basis with the ideal of some in which no first term divides any powers of another one."""
    check_given(some)
    ring = ring_of(some)
    return basis_told(ring, [ring.packed(polynomial) for polynomial in some])


def basis_told(ring, given):
    """As basis_of, of packed polynomials."""
    # That it is beyond the bounds, or has 1 in it, is seen by remainders, ahead of reckoning with long numbers.
    likely = remainders_made(ring, given)
    _check_basis(ring, likely)
    if is_all(ring, given, likely):
        return ((((), 1),),)
    basis = whole_made(ring, given, False)
    _check_basis(ring, None if basis is None else [terms for terms, _ in basis])
    return tuple([ring.unpacked(terms) for terms, _ in basis])


def _check_basis(ring, basis):
    """Raise TooMany if a basis, None for too many polynomials, is too long, then if one of it is beyond the bounds."""
    if basis is None or len(basis) > MOST_IN_BASIS:
        raise TooMany(MOST_IN_BASIS)
    for terms in basis:
        check_packed(ring, terms)


def check_packed(ring, terms):
    """Raise TooMany if a packed polynomial is beyond the bounds."""
    if ring.highest_degree(terms) > MOST_DEGREE:
        raise TooMany(MOST_DEGREE)
    if len(terms) > MOST_TERMS:
        raise TooMany(MOST_TERMS)


def shown(some):
    """For each polynomial of basis_of(some) a pair (k, factors): k times it is the sum of factors times some."""
    basis_of(some)
    ring = ring_of(some)
    proven = whole_made(ring, [ring.packed(polynomial) for polynomial in some], True)
    return tuple([proof_told(ring, proof, len(some)) for _, proof in proven])


def proof_told(ring, proof, many):
    """The pair (k, factors) of a proof; TooMany if a factor is beyond the bounds."""
    factors = [proof[1].get(number, {}) for number in range(many)]
    for factor in factors:
        check_packed(ring, factor)
    return proof[0], tuple([ring.unpacked(factor) for factor in factors])


def is_shown(some, thing):
    """Whether any value tells for each polynomial of basis_of(some) how it is made of some."""
    basis = basis_of(some)
    if not is_row(thing, len(basis)):
        return False
    return all([is_row(pair, 2) and is_factored(some, polynomial, pair[0], pair[1])
                for polynomial, pair in zip(basis, thing)])
