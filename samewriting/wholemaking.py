"""Making bases in whole numbers.

Overlaps that leave 0 need not be divided out in long numbers: remainders show which ones are likely
to do so. Whether all of them do is proven by the basis in the end; if not, it is made anew without
remainders.
"""

from math import gcd

from samewriting.basemaking import MOST_IN_BASIS, NO_LIMITS, NO_REST, BasisMaker, prime_for, with_head_one
from samewriting.proofs import combined_proof
from samewriting.reducing import ENDLESS, Division, Finder, RemainderDivision, divisor_of, overlap_at, terms_of


class WholeMaker(BasisMaker):
    """A basis in whole numbers. If it is proven, each divisor has a proof; the given ones count as -1, -2, ..

    If a prime is told, overlaps are passed by that leave 0 by its remainders.
    """

    def __init__(self, ring, given, prime, is_proven):
        super().__init__(ring, given)
        self.prime = prime
        self.images = []
        self.image_finder = Finder(self.images, ring.divides)
        self.proofs = None
        if is_proven:
            self.proofs = {-1 - number: (1, {number: {0: 1}}) for number in range(len(given))}

    def take_given(self, number, sugar):
        """Take one of the given polynomials."""
        self._take(self.given[number], [({0: 1}, -1 - number)], sugar)

    def take_overlap(self, one, other, met, sugar):
        """Take the overlap of two divisors, unless it is likely to leave 0."""
        if self.prime is not None:
            image = overlap_at(self.images[one], self.images[other], met)
            if RemainderDivision(image, self.image_finder, NO_REST, self.prime).run(ENDLESS):
                return
        first = self.divisors[one]
        second = self.divisors[other]
        common = gcd(first[1], second[1])
        sources = [({met - first[0]: second[1] // common}, one), ({met - second[0]: -(first[1] // common)}, other)]
        self._take(overlap_at(first, second, met), sources, sugar)

    def _take(self, terms, sources, sugar):
        """Divide what is the sum of sources; what is left, if anything, is a new divisor."""
        rest, proof = self._divided_out(terms, sources, self.finder, list(range(len(self.divisors))))
        if rest:
            if self.proofs is not None:
                self.proofs[len(self.divisors)] = proof
            self.keep(rest, sugar)
            self._keep_image(rest)

    def _keep_image(self, terms):
        if self.prime is None:
            return
        image = with_head_one(terms, self.prime)
        if image:
            self.images.append(divisor_of(image))
        else:
            # From here on remainders tell nothing.
            self.prime = None

    def _divided_out(self, terms, sources, finder, numbers):
        """The cleared rest of the terms by the divisors of these numbers, and its proof, None if none is wanted."""
        division = Division(terms, finder, NO_LIMITS)
        division.run(ENDLESS)
        self.turns += division.turns
        many, parts, rest = division.whole()
        if not rest:
            return {}, None
        scale = _content_of(rest)
        proof = None
        if self.proofs is not None:
            used = [(_times(part, many), number) for part, number in sources]
            used.extend([(_times(part, -1), number) for part, number in zip(parts, numbers) if part])
            proof = combined_proof(used, scale, self.proofs)
        return {mono: rest[mono] // scale for mono in rest}, proof

    def reduced(self):
        """The basis, in order: pairs (terms, proof)."""
        rows = []
        numbers = []
        finder = Finder(rows, self.ring.divides)
        told = []
        for number in self.in_order():
            # No first term so far divides the own one: it stays in the rest.
            own = terms_of(self.divisors[number])
            terms, proof = self._divided_out(own, [({0: 1}, number)], finder, numbers)
            told.append((terms, proof))
            rows.append(divisor_of(terms))
            numbers.append(len(self.divisors) + len(numbers))
            if self.proofs is not None:
                self.proofs[numbers[-1]] = proof
        return told

    def is_basis_of_all(self, basis):
        """Whether some polynomials, as the first divisors, leave the rest 0 of all given ones and of their overlaps."""
        for terms in basis:
            self.keep(terms, 0)
        if not all([self._leaves_none(terms) for terms in self.given]):
            return False
        for (one, other), met in self.waiting.items():
            if not self._leaves_none(overlap_at(self.divisors[one], self.divisors[other], met)):
                return False
        return True

    def _leaves_none(self, terms):
        return Division(terms, self.finder, NO_REST).run(ENDLESS)


def _content_of(terms):
    """The greatest common factor of the coefficients, below 0 if that of the first term is."""
    common = 0
    for mono in terms:
        common = gcd(common, terms[mono])
    return common if terms[max(terms)] > 0 else -common


def without_content(terms):
    """The terms without the common factor of their coefficients, that of the first term above 0."""
    if not terms:
        return terms
    scale = _content_of(terms)
    return {mono: terms[mono] // scale for mono in terms}


def _times(terms, number):
    return {mono: terms[mono] * number for mono in terms}


def whole_made(ring, given, is_proven):
    """The polynomials of the only basis, in order, as (terms, proof); None if it is seen that there are too many."""
    prime = prime_for(given)
    told = None if prime is None else _made(ring, given, prime, is_proven)
    # What is made is of the ideal for sure; that it is a basis of all of it is seen by dividing.
    if told is not None and WholeMaker(ring, given, None, False).is_basis_of_all([terms for terms, _ in told]):
        return told
    return _made(ring, given, None, is_proven)


def _made(ring, given, prime, is_proven):
    maker = WholeMaker(ring, given, prime, is_proven)
    if not maker.run():
        return None
    if len(maker.active) > MOST_IN_BASIS:
        # Nobody wants these divided by one another.
        return [(terms_of(maker.divisors[number]), None) for number in maker.in_order()]
    return maker.reduced()
