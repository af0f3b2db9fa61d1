"""Whether polynomials, or powers of them, are of an ideal; and what stays when all is divided by it."""

from samewriting.basemaking import NO_LIMITS, is_soon_told, prime_for
from samewriting.bases import basis_made, basis_told, check_given, proof_told, ring_of
from samewriting.dividing import is_basis
from samewriting.errors import BadPolynomials, BadVariables, TooMany
from samewriting.judging import is_factored
from samewriting.packed import multiplied, packed, unpacked
from samewriting.polynomials import check_polynomial
from samewriting.proofs import combined_proof
from samewriting.putting import MOST_DEGREE, put_within
from samewriting.reducing import ENDLESS, Division, Finder, RemainderDivision, divisor_of, leaves_rest
from samewriting.rings import Ring
from samewriting.values import is_row, is_word
from samewriting.vanishing import MOST_POWERS, check_variables
from samewriting.wholemaking import whole_made, without_content

_EXTRA = (3, 15)
_EASY_POWERS = 200000
_LONG_POWERS = 5000000
_EASY_TURNS = 20000
_MOST_POWERS = 60


def belonging(some, polynomial):
    """("in", k, factors) for k times the polynomial, or ("out", basis) by which it leaves a rest."""
    check_given(some)
    check_polynomial(polynomial)
    ring, given = _ring_and_given(some, polynomial)
    basis = basis_told(ring, given)
    if _rest_by(ring, basis, polynomial):
        return ("out", basis)
    return ("in",) + _factors_of(ring, given, ring.packed(polynomial))


def _ring_and_given(some, polynomial):
    """The ring of all their variables, and some packed."""
    ring = ring_of(some + (polynomial,))
    return ring, [ring.packed(other) for other in some]


def _finder_of(ring, basis):
    return Finder([divisor_of(terms) for terms in basis], ring.divides)


def _rest_by(ring, basis, polynomial):
    """What a division by a basis leaves."""
    division = Division(ring.packed(polynomial), _finder_of(ring, [ring.packed(other) for other in basis]), NO_LIMITS)
    division.run(ENDLESS)
    return division.whole()[2]


def _factors_of(ring, given, terms):
    """The pair (k, factors) for a packed polynomial of the ideal."""
    proven = whole_made(ring, given, True)
    division = Division(terms, _finder_of(ring, [own for own, _ in proven]), NO_LIMITS)
    division.run(ENDLESS)
    many, parts, _ = division.whole()
    proofs = {number: proof for number, (_, proof) in enumerate(proven)}
    used = [(part, number) for number, part in enumerate(parts) if part]
    return proof_told(ring, combined_proof(used, many, proofs), len(given))


def is_belonging(some, polynomial, thing):
    """Whether any value tells that a polynomial is of the ideal, or that it is not."""
    check_given(some)
    check_polynomial(polynomial)
    if is_row(thing, 3) and is_word(thing[0], "in"):
        return is_factored(some, polynomial, thing[1], thing[2])
    if not is_row(thing, 2) or not is_word(thing[0], "out") or not is_basis(thing[1]):
        return False
    divisors = [divisor_of(packed(other)) for other in thing[1]]
    if not leaves_rest(packed(polynomial), divisors):
        return False
    return not any([leaves_rest(packed(other), divisors) for other in some])


def power_in(some, polynomial):
    """("power", n, k, factors) for the least power of the ideal, or ("never", basis)."""
    check_given(some)
    check_polynomial(polynomial)
    ring, given = _ring_and_given(some, polynomial)
    if _EXTRA in ring.variables:
        raise BadVariables("(3, 15) is wanted for something else")
    basis = basis_told(ring, given)
    # What is easy is looked at first: powers, then whether there is any right one, then powers again.
    many = _least_power(ring, basis, polynomial, _EASY_POWERS)
    wider, extended = _with_inverse(some, polynomial)
    if many is None and not is_soon_told(wider, extended, _EASY_TURNS):
        many = _least_power(ring, basis, polynomial, _LONG_POWERS)
    if many is None:
        never = basis_told(wider, extended)
        if never != ((((), 1),),):
            return ("never", never)
        many = _least_power(ring, basis, polynomial, ENDLESS)
    if many is None:
        raise TooMany(MOST_DEGREE)
    power = _power_of(polynomial, many)
    return ("power", many) + _factors_of(ring, given, ring.packed(power))


def _with_inverse(some, polynomial):
    """The ring of some and (3, 15), and some and 1 less (3, 15) times the polynomial, packed."""
    ring = Ring(ring_of(some + (polynomial,)).variables + [_EXTRA])
    extra = ring.units[_EXTRA]
    # No power of the polynomial is in it exactly if the polynomial may be, somewhere, one over (3, 15).
    inverse = {mono + extra: -number for mono, number in ring.packed(polynomial).items()}
    inverse[0] = 1
    return ring, [ring.packed(other) for other in some] + [inverse]


def _least_power(ring, basis, polynomial, patience):
    """The least number whose power is of the ideal, None if it is not found.

    TooMany if a power with a higher degree than is let is the least one.
    """
    base = ring.packed(polynomial)
    degree = max(1, ring.highest_degree(base))
    finder = _finder_of(ring, [ring.packed(other) for other in basis])
    # Remainders that are not 0 show that a rest is not 0; where they are 0, it is divided in whole numbers.
    prime = prime_for([{0: divisor[1]} for divisor in finder.divisors])
    left = {0: 1}
    many = 0
    while patience > 0 and ((many + 1) * degree <= MOST_DEGREE or prime is not None and many < _MOST_POWERS):
        many += 1
        if prime is not None:
            patience -= len(left) * len(base)
            left = _next_remainders(left, base, finder, prime)
        if prime is None or not left:
            if _is_power_in(base, finder, many):
                if many * degree > MOST_DEGREE:
                    raise TooMany(MOST_DEGREE)
                return many
            prime = None
    return None


def _next_remainders(left, base, finder, prime):
    """The remainders of the rest of the next power, of those of the one ahead of it."""
    division = RemainderDivision(multiplied(left, base), finder, NO_LIMITS, prime)
    division.run(ENDLESS)
    return {mono: number for mono, number, _ in division.rest}


def _is_power_in(base, finder, many):
    """Whether a power of a packed polynomial leaves the rest 0, in whole numbers."""
    left = {0: 1}
    for _ in range(many):
        division = Division(multiplied(left, base), finder, NO_LIMITS)
        division.run(ENDLESS)
        left = without_content(division.whole()[2])
    return not left


def _power_of(polynomial, many):
    """The power of a polynomial; TooMany if it is beyond the bounds."""
    variable = (0, 0)
    return unpacked(put_within(((((variable, many),), 1),), {variable: packed(polynomial)}))


def staying(variables, some):
    """All powers in the variables that no first term of the basis divides, the greatest first; None if endless many."""
    check_variables(variables)
    check_given(some)
    if not all([variable in variables for variable in ring_of(some).variables]):
        raise BadPolynomials("other variables")
    inner = ring_of(some)
    basis = basis_made(inner, [inner.packed(polynomial) for polynomial in some])
    ring = Ring(list(variables))
    told = _left_by(ring, [ring.packed_powers(inner.powers_of(max(terms))) for terms in basis])
    return None if told is None else tuple([ring.powers_of(mono) for mono in told])


def _left_by(ring, leads):
    """The packed powers that no lead divides, the greatest first; None if endless many, TooMany if more than 60."""
    bare = [variable for variable in ring.variables if not _has_power(ring, leads, variable)]
    if bare and 0 not in leads:
        return None
    found = []
    row = [0]
    while row:
        row = [mono for mono in row if not any([ring.divides(lead, mono) for lead in leads])]
        found.extend(row)
        if len(found) > MOST_POWERS:
            raise TooMany(MOST_POWERS)
        row = sorted({mono + ring.units[variable] for mono in row for variable in ring.variables})
    return sorted(found, reverse=True)


def _has_power(ring, leads, variable):
    """Whether a lead is a power of this variable alone."""
    return any([[pair[0] for pair in ring.powers_of(lead)] == [variable] for lead in leads])
