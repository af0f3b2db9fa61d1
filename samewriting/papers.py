"""Making papers: equations of pairs, put into rows, are divided by those of the children's pairs."""

from samewriting.packed import degree_packed, for_child, packed, put, unpacked
from samewriting.putting import (EASY, MOST_DEGREE, MOST_TERMS, PRIME, formal_degree, has_degree, has_more_terms,
                                  putting_cost)
from samewriting.reducing import divided_within, divisor_of, may_divide
from samewriting.walks import tuples_below

# No rest is let, and factors are polynomials: of at most 400 terms, of a degree of at most 40.
LIMITS = (0, 400, 40)


class PaperMaker:
    """Equations for each pair of the sides, and the paper that divisions by them make, if they do."""

    def __init__(self, sides, equations):
        self.sides = sides
        self.equations = equations
        self.ready = {}

    def paper(self):
        """The paper; None if a division leaves a rest, or a factor is no polynomial."""
        if self.sides.has_lone_end():
            return None
        rows = []
        for kind, pair in enumerate(self.sides.kinds):
            row = []
            for states in tuples_below(len(self.sides.pairs), pair[1]):
                sums = self._sums_at(kind, states)
                if sums is None:
                    return None
                row.append(sums)
            rows.append(tuple(row))
        ends = self._ends()
        if ends is None:
            return None
        return ("paper", self.equations, tuple(rows), ends)

    def _sums_at(self, kind, states):
        equations = self.equations[self.sides.goal_at(kind, states)]
        row = self.sides.row_at(kind, states)
        worths = {(0, room): row[room] for room in range(self.sides.rooms)}
        told = []
        for equation in equations:
            one_sum = self._sum_of_put(equation, worths, states)
            if one_sum is None:
                return None
            told.append(one_sum)
        return tuple(told)

    def _ends(self):
        told = []
        for pair in range(len(self.sides.pairs)):
            one_sum = None
            if self.sides.ends_at(pair)[0] is not None:
                one_sum = self._sum_for(self.sides.difference_at(pair), [pair])
                if one_sum is None:
                    return None
            told.append(one_sum)
        return tuple(told)

    def _sum_of_put(self, equation, worths, states):
        if putting_cost(equation, worths) > EASY and not self._may_have_sum(equation, worths, states):
            return None
        return self._sum_for(put(equation, worths), states)

    def _may_have_sum(self, equation, worths, states):
        """Whether neither degrees nor remainders show that there is no sum: seen ahead of long work."""
        divisors = self._divisors_for(states)[1]
        highest = formal_degree(equation, worths)
        most = MOST_DEGREE + max([degree_packed(divisor[0]) for divisor in divisors], default=0)
        if highest > most and has_degree(equation, worths, highest):
            return False
        longest = MOST_TERMS * sum([1 + len(divisor[2]) for divisor in divisors])
        if has_more_terms(equation, worths, longest):
            return False
        return may_divide(put(equation, worths, PRIME), divisors, LIMITS)

    def _sum_for(self, terms, states):
        names, divisors = self._divisors_for(states)
        told = divided_within(terms, divisors, LIMITS)
        if told is None:
            return None
        parts = [(child, place, unpacked(part)) for (child, place), part in zip(names, told[1]) if part]
        return told[0], tuple(parts)

    def _divisors_for(self, states):
        """The equations of children's pairs, as (child, place) and made ready to divide by."""
        divisors = []
        names = []
        for child, state in enumerate(states):
            own = self._divisors_at(state, child)
            divisors.extend(own)
            names.extend([(child, place) for place in range(len(own))])
        return names, divisors

    def _divisors_at(self, pair, child):
        key = (pair, child)
        if key not in self.ready:
            found = []
            for equation in self.equations[pair]:
                terms = packed(equation)
                found.append(divisor_of({for_child(mono, child): terms[mono] for mono in terms}))
            self.ready[key] = found
        return self.ready[key]
