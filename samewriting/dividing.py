"""Dividing polynomials by several others, and bases."""

from samewriting.errors import BadPolynomial, BadPolynomials, TooMany
from samewriting.packed import degree_packed, packed, packed_powers, powers_packed, unpacked
from samewriting.polynomials import check_polynomial, cleared_of, is_polynomial
from samewriting.putting import MOST_DEGREE, MOST_TERMS, check_bounds
from samewriting.reducing import divided_within, divisor_of, leaves_rest, overlap_at


def _are_divisors(thing):
    """Whether any value is a tuple of at most 60 polynomials, none of them 0."""
    if not isinstance(thing, tuple) or len(thing) > 60:
        return False
    return all([is_polynomial(polynomial) and len(polynomial) > 0 for polynomial in thing])


def divided(polynomial, several):
    """(k, parts, rest): k times the polynomial is the sum of parts times several, and rest."""
    check_polynomial(polynomial)
    if not _are_divisors(several):
        raise BadPolynomials("no polynomials to divide by")
    divisors = [divisor_of(packed(other)) for other in several]
    told = divided_within(packed(polynomial), divisors, (MOST_TERMS, MOST_TERMS, MOST_DEGREE))
    if told is None:
        raise TooMany(MOST_TERMS)
    many, parts, rest = told
    return many, tuple([unpacked(part) for part in parts]), unpacked(rest)


def overlap(one, other):
    """What is left of both, brought to the same first term, once this goes."""
    for polynomial in (one, other):
        check_polynomial(polynomial)
        if not polynomial:
            raise BadPolynomial("it has no first term")
    told = _overlap_of(divisor_of(packed(one)), divisor_of(packed(other)))
    check_bounds(told)
    return cleared_of(unpacked(told))


def _least_both_divide(one, other):
    """The least packed powers that both divide."""
    powers = dict(powers_packed(one))
    for variable, power in powers_packed(other):
        powers[variable] = max(power, powers.get(variable, 0))
    return packed_powers([(variable, powers[variable]) for variable in powers])


def _overlap_of(one, other):
    """The overlap of two divisors, not cleared, as a packed polynomial."""
    return overlap_at(one, other, _least_both_divide(one[0], other[0]))


def is_basis(thing):
    """Whether any value is a tuple of polynomials the overlaps of which all leave the rest 0."""
    if not _are_divisors(thing):
        return False
    divisors = [divisor_of(packed(polynomial)) for polynomial in thing]
    for place, one in enumerate(divisors):
        for other in divisors[:place]:
            # First terms without a common variable: such an overlap leaves 0 if all other ones do.
            if _have_common(one[0], other[0]) and leaves_rest(_overlap_of(one, other), divisors):
                return False
    return True


def _have_common(one, other):
    met = _least_both_divide(one, other)
    return degree_packed(met) < degree_packed(one) + degree_packed(other)
