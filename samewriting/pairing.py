"""Two number readers side by side: the pairs of their states, and the rooms of a pair."""

from samewriting.errors import OtherKinds
from samewriting.numbers import check_numbers
from samewriting.packed import packed
from samewriting.valuing import Valuer
from samewriting.walks import pairs_met, place_of


class Sides:
    """Two number readers of the same kinds, with the pairs met and the goals of their rows.

    The rooms of a pair are those of one and, behind them, those of other.
    """

    def __init__(self, one, other, pairs, goals):
        self.one = one
        self.other = other
        self.kinds = one[1][1]
        self.pairs = pairs
        self.goals = goals
        self.rooms = one[2] + other[2]
        self.ready = {}

    def row_at(self, kind, states):
        """The packed polynomials of the rooms of a pair, for a kind and the pairs of its children."""
        first = [self.pairs[state][0] for state in states]
        second = [self.pairs[state][1] for state in states]
        return self._row_of(self.one, 0, kind, first) + self._row_of(self.other, self.one[2], kind, second)

    def _row_of(self, reader, moved, kind, states):
        place = place_of(reader[1][2], states)
        # Both may be the same reader: what tells them apart is that one is not moved.
        key = (moved, kind, place)
        if key not in self.ready:
            self.ready[key] = [packed(polynomial, moved) for polynomial in reader[3][kind][place]]
        return self.ready[key]

    def goal_at(self, kind, states):
        """The pair to which a row leads."""
        return self.goals[kind][place_of(len(self.pairs), states)]

    def ends_at(self, pair):
        """Both ends of a pair."""
        return self.one[4][self.pairs[pair][0]], self.other[4][self.pairs[pair][1]]

    def difference_at(self, pair):
        """The end of one less that of other, packed; both are polynomials."""
        first, second = self.ends_at(pair)
        told = packed(first)
        for mono, number in packed(second, self.one[2]).items():
            told[mono] = told.get(mono, 0) - number
        return {mono: told[mono] for mono in told if told[mono]}

    def has_lone_end(self):
        """Whether just one of both ends of some pair is a polynomial."""
        for pair in range(len(self.pairs)):
            first, second = self.ends_at(pair)
            if (first is None) != (second is None):
                return True
        return False

    def both_valuers(self):
        """The valuers of one and of other, for numbers of pairs in the place of states."""
        return [Valuer(self.one, [first for first, _ in self.pairs], 0),
                Valuer(self.other, [second for _, second in self.pairs], self.one[2])]


def check_sides(one, other):
    """Raise BadNumbers for one, for other, then OtherKinds."""
    check_numbers(one)
    check_numbers(other)
    if one[1][1] != other[1][1]:
        raise OtherKinds("not the same kinds")


def sides_of(one, other):
    """The sides of two number readers that are checked; TooMany for too many pairs or goals."""
    pairs, goals = pairs_met(one[1], other[1], 400, 20000)
    return Sides(one, other, pairs, goals)
