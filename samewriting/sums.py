"""Papers that two number readers are the same: taken by multiplying out alone."""

from samewriting.packed import add_times, for_child, packed, put, trimmed
from samewriting.pairing import check_sides, sides_of
from samewriting.polynomials import is_polynomial
from samewriting.putting import EASY, PRIME, putting_cost, remainder_of, remainder_put
from samewriting.values import is_between, is_rising, is_row, is_whole, is_word
from samewriting.walks import tuples_below


def is_paper(one, other, thing):
    """Whether any value is a paper for two number readers."""
    check_sides(one, other)
    return _is_paper_of(sides_of(one, other), thing)


def _is_paper_of(sides, thing):
    if not is_row(thing, 4) or not is_word(thing[0], "paper"):
        return False
    equations, rows, ends = thing[1:]
    if not is_row(equations, len(sides.pairs)) or not is_row(rows, len(sides.kinds)):
        return False
    if not all([_are_equations(some, sides.rooms) for some in equations]):
        return False
    sums = PaperSums(sides, equations)
    for kind, pair in enumerate(sides.kinds):
        if not _is_row_of_sums(sums, kind, pair[1], rows[kind]):
            return False
    return is_row(ends, len(sides.pairs)) and all([sums.holds_end(pair, end) for pair, end in enumerate(ends)])


def _are_equations(thing, rooms):
    if not isinstance(thing, tuple) or not all([is_polynomial(equation) for equation in thing]):
        return False
    used = [variable for equation in thing for powers, _ in equation for variable, _ in powers]
    return all([child == 0 and room < rooms for child, room in used])


def _is_row_of_sums(sums, kind, rank, thing):
    all_states = tuples_below(len(sums.sides.pairs), rank)
    if not is_row(thing, len(all_states)):
        return False
    return all([sums.hold_at(kind, states, goal_sums) for states, goal_sums in zip(all_states, thing)])


def _is_sum(thing, counts):
    """Whether any value has the form of a sum for children with so many equations."""
    if not is_row(thing, 2) or not is_whole(thing[0]) or thing[0] < 1 or not isinstance(thing[1], tuple):
        return False
    for part in thing[1]:
        if not is_row(part, 3) or not is_between(part[0], 0, len(counts) - 1):
            return False
        if not is_between(part[1], 0, counts[part[0]] - 1):
            return False
        if not is_polynomial(part[2]) or not part[2]:
            return False
    return is_rising([part[:2] for part in thing[1]])


class PaperSums:
    """The sums of a paper, its equations told."""

    def __init__(self, sides, equations):
        self.sides = sides
        self.equations = equations
        self.ready = {}

    def hold_at(self, kind, states, thing):
        """Whether any value is a sum for each equation of the pair to which a row leads."""
        goal = self.sides.goal_at(kind, states)
        equations = self.equations[goal]
        if not is_row(thing, len(equations)):
            return False
        row = self.sides.row_at(kind, states)
        worths = {(0, room): row[room] for room in range(self.sides.rooms)}
        for equation, one_sum in zip(equations, thing):
            if not self._holds(states, one_sum, equation, worths):
                return False
        return True

    def holds_end(self, pair, thing):
        """Whether any value is what stands for the ends of a pair."""
        first, second = self.sides.ends_at(pair)
        if first is None and second is None:
            return thing is None
        if first is None or second is None or not _is_sum(thing, [len(self.equations[pair])]):
            return False
        return _told_by(thing[0], self.sides.difference_at(pair)) == self._summed([pair], thing[1])

    def _holds(self, states, thing, equation, worths):
        if not _is_sum(thing, [len(self.equations[state]) for state in states]):
            return False
        if putting_cost(equation, worths) > EASY and not self._may_hold(states, thing, equation, worths):
            return False
        return _told_by(thing[0], put(equation, worths)) == self._summed(states, thing[1])

    def _may_hold(self, states, thing, equation, worths):
        """Whether both sides leave the same remainder: what is too long to multiply out seldom does."""
        total = 0
        for child, place, factor in thing[1]:
            told = remainder_of(self._equation_at(states[child], place, child))
            total += told * remainder_of(packed(factor))
        return (thing[0] * remainder_put(equation, worths) - total) % PRIME == 0

    def _equation_at(self, pair, place, child):
        key = (pair, place, child)
        if key not in self.ready:
            terms = packed(self.equations[pair][place])
            self.ready[key] = {for_child(mono, child): terms[mono] for mono in terms}
        return self.ready[key]

    def _summed(self, states, parts):
        told = {}
        for child, place, factor in parts:
            equation = self._equation_at(states[child], place, child)
            for mono, number in packed(factor).items():
                add_times(told, equation, mono, number)
        return trimmed(told)


def _told_by(number, terms):
    return {mono: number * terms[mono] for mono in terms}
