"""Whether two number readers are the same: by equations of the rooms of pairs, or by a tree that parts them."""

from samewriting.errors import BadDegree, BadSize, TooMany
from samewriting.numbers import check_digits
from samewriting.pairing import check_sides, sides_of
from samewriting.papers import PaperMaker
from samewriting.powers import equations_through
from samewriting.putting import PRIME
from samewriting.trees import counts_to, trees_of_sizes
from samewriting.values import is_between
from samewriting.valuing import ready_terms, reckoned
from samewriting.vanishing import check_powers
from samewriting.walks import tuples_below


class Sample:
    """All trees of at most so many nodes, in order, with their pairs and the worths of both readers."""

    def __init__(self, sides, most):
        self.sides = sides
        self.entries = trees_of_sizes(sides.kinds, list(range(1, most + 1)))
        self.valuers = sides.both_valuers()
        self.pairs = []
        self.worths = []
        for _, _, kind, kids in self.entries:
            states = [self.pairs[kid] for kid in kids]
            below = [self.worths[kid] for kid in kids]
            row = self._worths_at(kind, states, below)
            check_digits(row)
            self.pairs.append(sides.goal_at(kind, states))
            self.worths.append(row)

    def last_points(self):
        """For each pair remainders of the worths of its greatest trees: two unlike ones, if there are so many."""
        found = [[] for _ in self.sides.pairs]
        for number in range(len(self.pairs) - 1, -1, -1):
            rows = found[self.pairs[number]]
            if len(rows) < 2:
                row = _remainders(self.worths[number])
                if row not in rows:
                    rows.append(row)
        return found

    def refutes(self, equations):
        """Whether an equation is not 0 at a tree, the children of which are trees of the sample.

        No sum of the equations of the children's pairs tells it then: these are all 0 there. A
        remainder that is not 0 is enough to see it.
        """
        points = self.last_points()
        terms = [[ready_terms(equation, 0) for equation in some] for some in equations]
        for kind, pair in enumerate(self.sides.kinds):
            for states in tuples_below(len(points), pair[1]):
                goal = self.sides.goal_at(kind, states)
                if terms[goal] and self._refutes_at(kind, states, points, terms[goal]):
                    return True
        return False

    def _refutes_at(self, kind, states, points, terms):
        rows = [[]]
        for state in states:
            rows = [row + [point] for row in rows for point in points[state]]
        for row in rows:
            worths = _remainders(self._worths_at(kind, states, row))
            if any([reckoned(equation, [worths]) % PRIME for equation in terms]):
                return True
        return False

    def _worths_at(self, kind, states, kids):
        row = []
        for valuer in self.valuers:
            row.extend(valuer.worths_at(kind, states, kids))
        return row

    def parting(self):
        """The least of the trees that parts the readers, None if none does."""
        for number, entry in enumerate(self.entries):
            told = [valuer.end_at(self.pairs[number], self.worths[number]) for valuer in self.valuers]
            if told[0] != told[1]:
                return entry[1]
        return None

    def points_of(self, pair):
        """The unlike worths of trees of a pair, in order."""
        told = {}
        for own, row in zip(self.pairs, self.worths):
            if own == pair:
                told[tuple(row)] = True
        return list(told)


def _remainders(row):
    return [number % PRIME for number in row]


def check_reach(degree, size):
    """Raise BadDegree, then BadSize, for what is not let."""
    if not is_between(degree, 1, 4):
        raise BadDegree("not from 1 to 4")
    if not is_between(size, 1, 9):
        raise BadSize("not from 1 to 9")


def _sample_of(one, other, degree, size):
    """The sides and the sample of two readers that are checked; the last errors of equations_of."""
    sides = sides_of(one, other)
    if sum(counts_to(sides.kinds, size)) > 3000:
        raise TooMany(3000)
    sample = Sample(sides, size)
    check_powers(sides.rooms, degree)
    return sides, sample


def equations_of(one, other, degree, size):
    """For each pair met the polynomials, as stairs, that are 0 at all its trees of at most this size."""
    check_sides(one, other)
    check_reach(degree, size)
    sides, sample = _sample_of(one, other, degree, size)
    return _equations(sides, sample, degree)


def _equations(sides, sample, degree):
    variables = [(0, room) for room in range(sides.rooms)]
    pairs = range(len(sides.pairs))
    return tuple([equations_through(variables, degree, sample.points_of(pair)) for pair in pairs])


def sameness(one, other, degree, size):
    """("parted", tree), ("same", paper) or ("open",)."""
    check_sides(one, other)
    check_reach(degree, size)
    return sameness_of(one, other, degree, size)


def sameness_of(one, other, degree, size):
    """As sameness, of two readers that are checked."""
    sides, sample = _sample_of(one, other, degree, size)
    tree = sample.parting()
    if tree is not None:
        return ("parted", tree)
    equations = _equations(sides, sample, degree)
    paper = None if sample.refutes(equations) else PaperMaker(sides, equations).paper()
    return ("open",) if paper is None else ("same", paper)
