"""Making the only basis of an ideal in which no first term divides any powers of another polynomial (B. Buchberger).

Here are the overlaps that must be looked at; how they are divided out is told by classes below.
"""

from heapq import heappop, heappush

from samewriting.packed import trimmed
from samewriting.reducing import ENDLESS, Finder, RemainderDivision, divisor_of, inverse_of, overlap_at, terms_of

MOST_IN_BASIS = 60
NO_LIMITS = (1 << 64, 1 << 64, 1 << 64)
NO_REST = (0, 1 << 64, 1 << 64)

# Remainders tell what is likely, never what is so: each of these primes may divide a coefficient.
BASIS_PRIMES = (1734981236409817307, 1398472650918273701, 2305843009213693951)


class BasisMaker:
    """A basis under way: its polynomials are divisors, numbered as they come.

    `active` are those whose first terms no other first term divides; `waiting` are the overlaps to
    be looked at.
    """

    def __init__(self, ring, given):
        self.ring = ring
        self.given = given
        self.divisors = []
        self.finder = Finder(self.divisors, ring.divides)
        self.sugars = []
        self.active = []
        self.waiting = {}
        self.queue = []
        self.turns = 0
        # If all powers of each given one have one degree, what is of lower degrees is not changed any more.
        self.is_steady = are_level(ring, given)

    def run(self, patience=1 << 64):
        """Look at all overlaps; False if it is seen early that there will be too many polynomials.

        None if it takes more turns than there is patience for.
        """
        for number, terms in enumerate(self.given):
            if terms:
                heappush(self.queue, (self.ring.highest_degree(terms), max(terms), -1, number))
        while self.queue:
            if self.turns > patience:
                return None
            sugar, met, one, other = heappop(self.queue)
            if one < 0:
                self.take_given(other, sugar)
            elif (one, other) in self.waiting:
                del self.waiting[(one, other)]
                self.take_overlap(one, other, met, sugar)
            if self.is_enough():
                return False
        return True

    def is_enough(self):
        """Whether it is seen early that there will be too many polynomials."""
        return self.is_steady and len(self.active) > MOST_IN_BASIS

    def keep(self, terms, sugar):
        """Keep a polynomial, none of whose powers any first term so far divides."""
        number = len(self.divisors)
        worst = max(sugar, self.ring.highest_degree(terms))
        divisor = divisor_of(terms)
        self._drop_waiting(divisor[0])
        self._pair_up(number, divisor[0], worst)
        self.divisors.append(divisor)
        self.sugars.append(worst)
        if divisor[0] == 0:
            # All is of the ideal: no further overlap tells more.
            self.queue = []

    def _drop_waiting(self, lead):
        """Overlaps that are told by those of both with the new divisor need not be looked at."""
        for pair, met in list(self.waiting.items()):
            if self.ring.divides(lead, met):
                leads = [self.divisors[number][0] for number in pair]
                if met not in [self.ring.least_both(own, lead) for own in leads]:
                    del self.waiting[pair]

    def _pair_up(self, number, lead, sugar):
        """Let overlaps with the new divisor wait, without those that are told by others (R. Gebauer, H. Moeller)."""
        ring = self.ring
        found = []
        for other in self.active:
            own = self.divisors[other][0]
            met = ring.least_both(own, lead)
            # Where the first terms have nothing in common, the overlap leaves 0; it stands for others first.
            found.append((met, met != own + lead, other))
        kept = []
        for met, is_open, other in sorted(found):
            if not any([ring.divides(earlier, met) for earlier in kept]):
                kept.append(met)
                if is_open:
                    self.waiting[(other, number)] = met
                    own = self.sugars[other] - ring.degree(self.divisors[other][0])
                    worst = max(own, sugar - ring.degree(lead)) + ring.degree(met)
                    heappush(self.queue, (worst, met, other, number))
        self.active = [other for other in self.active if not ring.divides(lead, self.divisors[other][0])] + [number]

    def in_order(self):
        """The active divisors' numbers, the greatest powers ascending."""
        return [number for _, number in sorted([(self.divisors[number][0], number) for number in self.active])]


class RemainderMaker(BasisMaker):
    """A basis of which only remainders by a prime are told, all first coefficients 1."""

    def __init__(self, ring, given, prime):
        super().__init__(ring, given)
        self.prime = prime

    def take_given(self, number, sugar):
        """Take one of the given polynomials."""
        self._take(self.given[number], sugar)

    def take_overlap(self, one, other, met, sugar):
        """Take the overlap of two divisors."""
        self._take(overlap_at(self.divisors[one], self.divisors[other], met), sugar)

    def _take(self, terms, sugar):
        rest = self.rest_of(terms, self.finder)
        if rest:
            self.keep(rest, sugar)

    def rest_of(self, terms, finder):
        """The rest by divisors, its first coefficient 1."""
        division = RemainderDivision(terms, finder, NO_LIMITS, self.prime)
        division.run(ENDLESS)
        self.turns += division.turns
        return with_head_one({mono: number for mono, number, _ in division.rest}, self.prime)

    def reduced(self):
        """The basis, in order."""
        rows = []
        finder = Finder(rows, self.ring.divides)
        told = []
        for number in self.in_order():
            rest = self.rest_of(terms_of(self.divisors[number]), finder)
            told.append(rest)
            rows.append(divisor_of(rest))
        return told


def with_head_one(terms, prime):
    """The remainders of terms with the first coefficient 1, none if they have another first term."""
    if not terms or terms[max(terms)] % prime == 0:
        return {}
    factor = inverse_of(terms[max(terms)], prime)
    return trimmed({mono: terms[mono] * factor for mono in terms}, prime)


def are_level(ring, given):
    """Whether all powers of each packed polynomial have one degree."""
    return all([len({ring.degree(mono) for mono in terms}) < 2 for terms in given])


def prime_for(given):
    """The first of some primes that divides no coefficient of the given ones, None if there is none."""
    for prime in BASIS_PRIMES:
        if all([number % prime for terms in given for number in list(terms.values())]):
            return prime
    return None


def is_soon_told(ring, given, patience):
    """Whether the remainders of the basis take no more turns than there is patience for."""
    prime = prime_for(given)
    return prime is not None and RemainderMaker(ring, given, prime).run(patience) is not None
