"""Reckoning the worths of trees in a number reader from those of their children."""

from samewriting.walks import place_of


class Valuer:
    """The polynomials of a number reader, each made ready once.

    The reader may be one of two, reckoned side by side: `own` tells its state for each state in
    sight, and its rooms stand behind `moved` others.
    """

    def __init__(self, reader, own, moved):
        self.many = reader[1][2]
        self.rows = reader[3]
        self.ends = reader[4]
        self.own = own
        self.moved = moved
        self.ready = {}

    def worths_at(self, kind, states, kids):
        """The worths of a tree of this kind, the children of which have these states and worths."""
        return [reckoned(terms, kids) for terms in self.terms_at(kind, states)]

    def terms_at(self, kind, states):
        """For each room the terms (number, factors) of its polynomial, each factor (child, room, power)."""
        place = place_of(self.many, [self.own[state] for state in states])
        key = (kind, place)
        if key not in self.ready:
            self.ready[key] = [ready_terms(polynomial, self.moved) for polynomial in self.rows[kind][place]]
        return self.ready[key]

    def end_at(self, state, worths):
        """The number told of a tree of this state and of these worths, None if it is not let by."""
        end = self.ends[self.own[state]]
        if end is None:
            return None
        return reckoned(ready_terms(end, self.moved), [worths])


def ready_terms(polynomial, moved):
    """The terms (number, factors) of a polynomial, each factor (child, room, power), rooms moved by so many."""
    return [(number, tuple([(child, room + moved, power) for (child, room), power in powers]))
            for powers, number in polynomial]


def reckoned(terms, kids):
    """The number that terms come to at the worths of children."""
    total = 0
    for number, factors in terms:
        worth = number
        for child, room, power in factors:
            worth *= kids[child][room] ** (int(power) % 41)
        total += worth
    return total
