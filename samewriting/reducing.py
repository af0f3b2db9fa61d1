"""Division of packed polynomials by several others, with fractions as coefficients."""

from heapq import heapify, heappop, heappush
from math import gcd, lcm

from samewriting.packed import degree_packed, divides
from samewriting.putting import PRIME

ENDLESS = 1 << 64

_PATIENCE = 300


def divisor_of(terms):
    """A packed polynomial, not 0, as (powers of its first term, the coefficient, its other terms)."""
    lead = max(terms)
    return lead, terms[lead], [(mono, terms[mono]) for mono in terms if mono != lead]


class Division:
    """A division under way. What is left is kept as whole numbers: `scale` times as much as it is.

    It fails as soon as the rest, or a part, has more terms than are let, or a part too high a
    degree: these only grow. The limits are (terms of the rest, terms of a part, degree of a part).
    """

    def __init__(self, terms, divisors, limits):
        self.left = {mono: terms[mono] for mono in terms}
        self.queue = [-mono for mono in terms]
        heapify(self.queue)
        self.divisors = divisors
        self.limits = limits
        self.scale = 1
        self.turns = 0
        self.parts = [[] for _ in divisors]
        self.rest = []

    def run(self, patience):
        """True at the end, False if it fails, None if it takes more patience; it may be run on then."""
        # By turns from the greatest powers on: what is passed by is not changed any more.
        while self.queue:
            if self.turns > patience or self.scale.bit_length() > 8 * patience:
                return None
            mono = -heappop(self.queue)
            number = self.left.pop(mono)
            if number and not self._turn(mono, number):
                return False
        return True

    def _turn(self, mono, number):
        spot = self._first_dividing(mono)
        if spot is None:
            self.rest.append((mono, number, self.scale))
            return len(self.rest) <= self.limits[0]
        self.turns += 1
        lead, head, tail = self.divisors[spot]
        step = mono - lead
        often = self.often(number, head)
        self.parts[spot].append((step, often, self.scale))
        for key, worth in tail:
            self.take_away(key + step, often * worth)
        return len(self.parts[spot]) <= self.limits[1] and degree_packed(step) <= self.limits[2]

    def _first_dividing(self, mono):
        for spot, divisor in enumerate(self.divisors):
            if divisor[0] <= mono and divides(divisor[0], mono):
                return spot
        return None

    def often(self, number, head):
        """How often a first term is taken away; what is left is scaled so that this is whole."""
        wanted = abs(head) // gcd(head, number)
        if wanted > 1:
            self.scale *= wanted
            self.left = {key: self.left[key] * wanted for key in self.left}
        return number * wanted // head

    def take_away(self, mono, number):
        """Take a term away from what is left."""
        if mono in self.left:
            self.left[mono] -= number
        else:
            self.left[mono] = -number
            heappush(self.queue, -mono)

    def whole(self):
        """(k, parts, rest) with k the least number by which all coefficients get whole."""
        rows = self.parts + [self.rest]
        many = 1
        for row in rows:
            for _, number, scale in row:
                many = lcm(many, scale // gcd(scale, number))
        told = [{mono: worth * many // times for mono, worth, times in row} for row in rows]
        return many, told[:-1], told[-1]


class RemainderDivision(Division):
    """A division of which only remainders by a prime are told: where it fails, the division fails."""

    def often(self, number, head):
        """The remainder of how often a first term is taken away."""
        return number * _inverse(head % PRIME) % PRIME

    def take_away(self, mono, number):
        """Take a term away from what is left, remainders only."""
        if mono in self.left:
            self.left[mono] = (self.left[mono] - number) % PRIME
        else:
            self.left[mono] = -number % PRIME
            heappush(self.queue, -mono)


def _inverse(number):
    """The number that, times this one, leaves the remainder 1 by the prime."""
    low, high = number, PRIME
    own, other = 1, 0
    while low > 1:
        often = high // low
        low, high = high - often * low, low
        own, other = other - often * own, own
    return own % PRIME


def may_divide(terms, divisors, limits):
    """Whether remainders do not show that a division fails."""
    if not all([divisor[1] % PRIME for divisor in divisors]):
        return True
    remainders = {mono: terms[mono] % PRIME for mono in terms}
    return RemainderDivision(remainders, divisors, limits).run(ENDLESS)


def divided_within(terms, divisors, limits):
    """As whole of a division; None if it fails."""
    division = Division(terms, divisors, limits)
    done = division.run(_PATIENCE)
    # Long divisions have long numbers: whether they fail is seen sooner by remainders.
    if done is None and may_divide(terms, divisors, limits):
        done = division.run(ENDLESS)
    return division.whole() if done else None


def leaves_rest(terms, divisors):
    """Whether a division leaves another rest than 0, whatever its parts."""
    return divided_within(terms, divisors, (0, ENDLESS, ENDLESS)) is None
