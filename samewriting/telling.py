"""What surroundings tell of the trees of a state: sums of their worths, found from the ends down."""

from samewriting.linear import common_factor, product_of, stairs_of
from samewriting.numbers import valuer_of
from samewriting.spans import summed
from samewriting.walks import tuples_below


class Tellings:
    """For each state of an even number reader the unlike sums that surroundings tell of its trees, and 1.

    A sum is a row of coefficients, for the rooms and, at last, for 1. Two are alike if no tree of
    the state tells them apart; sums of others are left out.
    """

    def __init__(self, numbers, spans):
        self.valuer = valuer_of(numbers)
        self.rooms = numbers[2]
        # Few numbers stand in stairs: what is put in is short then.
        self.bases = [stairs_of(self.rooms + 1, [spans.vectors[tree] for tree in row]) for row in spans.lists]
        self.sums = [[] for _ in self.bases]
        self.worths = [[] for _ in self.bases]
        self.waiting = []
        self.rows = self._rows_by_goal(numbers[1])
        for state, base in enumerate(self.bases):
            if base:
                self._take(state, [0] * self.rooms + [1])
        # Of 1 nothing but 1 comes.
        self.waiting = []
        for state, end in enumerate(numbers[4]):
            if self.bases[state] and end is not None:
                self._take(state, self.row_of_end(end))
        while self.waiting:
            state, row = self.waiting.pop()
            for kind, states in self.rows[state]:
                self._spread(kind, states, row)

    def _rows_by_goal(self, trees):
        """For each state the rows of trees, (kind, children's states), that lead to it."""
        met = [state for state, base in enumerate(self.bases) if base]
        found = [[] for _ in self.bases]
        for kind, pair in enumerate(trees[1]):
            goals = dict(zip(tuples_below(trees[2], pair[1]), trees[3][kind]))
            for spots in tuples_below(len(met), pair[1]):
                states = tuple([met[spot] for spot in spots])
                found[goals[states]].append((kind, states))
        return found

    def row_of_end(self, end):
        """The sum that an end tells."""
        told = [0] * (self.rooms + 1)
        for powers, number in end:
            told[powers[0][0][1] if powers else -1] = number
        return told

    def _take(self, state, row):
        """Take a sum for a state, unless it is told by those that are there."""
        told = [product_of(row, worths) for worths in self.bases[state]]
        rows = stairs_of(len(told), self.worths[state] + [told])
        if len(rows) > len(self.worths[state]):
            self.worths[state] = rows
            common = common_factor(row)
            self.sums[state].append([number // common for number in row])
            self.waiting.append((state, self.sums[state][-1]))

    def _spread(self, kind, states, row):
        """Take what a sum for a tree of this kind tells of its children, whatever stands beside them."""
        terms = self.terms_above(kind, states, row)
        for spot, state in enumerate(states):
            # Nothing new can come where all trees are told apart.
            if len(self.worths[state]) < len(self.bases[state]):
                for own in self._put_in_beside(terms, spot, states):
                    self._take(state, own)

    def terms_above(self, kind, states, row):
        """What a sum for a tree of this kind tells, as terms in the rooms of its children."""
        return summed(row, self.valuer.terms_at(kind, states) + [[(1, ())]])

    def _put_in_beside(self, terms, spot, states):
        """The rows for one child, with worths of trees put in for the others."""
        found = [terms]
        for child, state in enumerate(states):
            if child != spot:
                found = [with_worths(some, child, worths) for some in found for worths in self.bases[state]]
        return [self.row_of(some) for some in found]

    def row_of(self, terms):
        """The sum that terms tell in which the rooms of one child alone are left."""
        told = [0] * (self.rooms + 1)
        for number, factors in terms:
            told[factors[0][1] if factors else -1] += number
        return told

    def image_of(self, state, vector):
        """What the sums of a state tell of worths, with a 1 behind them."""
        return [product_of(row, vector) for row in self.sums[state]]


def with_worths(terms, child, worths):
    """Terms with the worths of a child, and 1 behind them, put in; each has at most one room of it."""
    told = {}
    for number, factors in terms:
        own = [factor[1] for factor in factors if factor[0] == child]
        worth = worths[own[0] if own else -1]
        if worth:
            rest = tuple([factor for factor in factors if factor[0] != child])
            told[rest] = told.get(rest, 0) + number * worth
    return [(told[rest], rest) for rest in told if told[rest]]
