"""Division of packed polynomials by several others, with fractions as coefficients."""

from heapq import heapify, heappop, heappush
from math import gcd, lcm

from samewriting.packed import degree_packed, divides, trimmed
from samewriting.putting import PRIME

ENDLESS = 1 << 64

_PATIENCE = 300


def divisor_of(terms):
    """A packed polynomial, not 0, as (powers of its first term, the coefficient, its other terms)."""
    lead = max(terms)
    return lead, terms[lead], [(mono, terms[mono]) for mono in terms if mono != lead]


def terms_of(divisor):
    """The packed polynomial of a divisor."""
    terms = dict(divisor[2])
    terms[divisor[0]] = divisor[1]
    return terms


def overlap_at(one, other, met):
    """The overlap of two divisors, not cleared, met being the least powers that both first terms divide."""
    common = gcd(one[1], other[1])
    told = {}
    for divisor, often in ((one, other[1] // common), (other, -(one[1] // common))):
        for mono, number in divisor[2]:
            both = mono + met - divisor[0]
            told[both] = told.get(both, 0) + often * number
    return trimmed(told)


class Finder:
    """Finds the first of some divisors, further ones may come, for powers; what was found is kept.

    Whether packed powers divide others is told by fits(mono, other).
    """

    def __init__(self, divisors, fits):
        self.divisors = divisors
        self.fits = fits
        self.known = {}

    def first_dividing(self, mono):
        """The number of the first divisor whose first term divides these powers, None if none does."""
        spot, tried = self.known.get(mono, (None, 0))
        if spot is None and tried < len(self.divisors):
            spot = self._first_from(tried, mono)
            self.known[mono] = (spot, len(self.divisors))
        return spot

    def _first_from(self, begin, mono):
        for spot in range(begin, len(self.divisors)):
            if self.fits(self.divisors[spot][0], mono):
                return spot
        return None


class Division:
    """A division under way. What is left is kept as whole numbers: `scale` times as much as it is.

    It fails as soon as the rest, or a part, has more terms than are let, or a part too high a
    degree: these only grow. The limits are (terms of the rest, terms of a part, degree of a part).
    """

    def __init__(self, terms, finder, limits):
        self.left = {mono: terms[mono] for mono in terms}
        self.queue = [-mono for mono in terms]
        heapify(self.queue)
        self.finder = finder
        self.limits = limits
        self.scale = 1
        self.turns = 0
        self.parts = [[] for _ in finder.divisors]
        self.rest = []

    def run(self, patience):
        """True at the end, False if it fails, None if it takes more patience; it may be run on then."""
        # By turns from the greatest powers on: what is passed by is not changed any more.
        while self.queue:
            if self.turns > patience or self.scale.bit_length() > 8 * patience:
                return None
            mono = -heappop(self.queue)
            number = self.left.pop(mono)
            if number and not self._turn(mono, number):
                return False
        return True

    def _turn(self, mono, number):
        spot = self.finder.first_dividing(mono)
        if spot is None:
            self.rest.append((mono, number, self.scale))
            return len(self.rest) <= self.limits[0]
        self.turns += 1
        lead, head, tail = self.finder.divisors[spot]
        step = mono - lead
        often = self.often(number, head)
        self.parts[spot].append((step, often, self.scale))
        for key, worth in tail:
            self.take_away(key + step, often * worth)
        return len(self.parts[spot]) <= self.limits[1] and degree_packed(step) <= self.limits[2]

    def often(self, number, head):
        """How often a first term is taken away; what is left is scaled so that this is whole."""
        wanted = abs(head) // gcd(head, number)
        if wanted > 1:
            self.scale *= wanted
            self.left = {key: self.left[key] * wanted for key in self.left}
        return number * wanted // head

    def take_away(self, mono, number):
        """Take a term away from what is left."""
        if mono in self.left:
            self.left[mono] -= number
        else:
            self.left[mono] = -number
            heappush(self.queue, -mono)

    def whole(self):
        """(k, parts, rest) with k the least number by which all coefficients get whole."""
        rows = self.parts + [self.rest]
        many = 1
        for row in rows:
            for _, number, scale in row:
                many = lcm(many, scale // gcd(scale, number))
        told = [{mono: worth * many // times for mono, worth, times in row} for row in rows]
        return many, told[:-1], told[-1]


class RemainderDivision(Division):
    """A division of which only remainders by a prime are told: where it fails, the division fails."""

    def __init__(self, terms, finder, limits, prime):
        super().__init__(trimmed(terms, prime), finder, limits)
        self.prime = prime

    def often(self, number, head):
        """The remainder of how often a first term is taken away."""
        return number * inverse_of(head, self.prime) % self.prime

    def take_away(self, mono, number):
        """Take a term away from what is left, remainders only."""
        if mono in self.left:
            self.left[mono] = (self.left[mono] - number) % self.prime
        else:
            self.left[mono] = -number % self.prime
            heappush(self.queue, -mono)


def inverse_of(number, prime):
    """The number that, times this one, leaves the remainder 1 by the prime."""
    low, high = number % prime, prime
    own, other = 1, 0
    while low > 1:
        often = high // low
        low, high = high - often * low, low
        own, other = other - often * own, own
    return own % prime


def may_divide(terms, divisors, limits):
    """Whether remainders do not show that a division fails."""
    if not all([divisor[1] % PRIME for divisor in divisors]):
        return True
    return RemainderDivision(terms, Finder(divisors, divides), limits, PRIME).run(ENDLESS)


def divided_within(terms, divisors, limits):
    """As whole of a division; None if it fails."""
    division = Division(terms, Finder(divisors, divides), limits)
    done = division.run(_PATIENCE)
    # Long divisions have long numbers: whether they fail is seen sooner by remainders.
    if done is None and may_divide(terms, divisors, limits):
        done = division.run(ENDLESS)
    return division.whole() if done else None


def leaves_rest(terms, divisors):
    """Whether a division leaves another rest than 0, whatever its parts."""
    return divided_within(terms, divisors, (0, ENDLESS, ENDLESS)) is None
