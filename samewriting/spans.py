"""Basis trees: the least trees of each state by which the worths of all its trees are told."""

from samewriting.errors import TooMany
from samewriting.groves import Grove
from samewriting.linear import narrowed, unit_rows
from samewriting.trees import MOST_LEVELS, MOST_NODES
from samewriting.valuing import reckoned
from samewriting.walks import place_of


class Spans(Grove):
    """The basis trees of an even reader's states, or of the pairs of two of them.

    The children of a basis tree are basis trees. For each state it is kept what is 0, of degree 1,
    at all its trees so far: rows of coefficients for the rooms and, at last, for 1.
    """

    def __init__(self, kinds, many, rows, valuers, rooms):
        super().__init__(kinds, many, rows, 1 << 64)
        self.valuers = valuers
        self.vectors = []
        self.forms = {}
        self.ties = [unit_rows(rooms + 1) for _ in range(many)]

    def wants(self, state):
        """Whether a further tree may have worths that are not told yet."""
        return len(self.ties[state]) > 0

    def kids_with(self, tree, spot, kind, states):
        """The children for trees, the worths of which are not told yet."""
        forms = self._forms_at(kind, states)
        if not forms:
            return []
        rows = super().kids_with(tree, spot, kind, states)
        return [kids for kids in rows if self._is_fresh(forms, kids)]

    def _is_fresh(self, forms, kids):
        worths = [self.vectors[kid] for kid in kids]
        for terms in forms:
            if reckoned(terms, worths):
                return True
        return False

    def _forms_at(self, kind, states):
        """The ties of the state to which a row leads, told in rooms of the children, as far as they are not 0."""
        place = place_of(self.many, states)
        ties = self.ties[self.rows[kind][place]]
        known = self.forms.get((kind, place), (0, []))
        if known[0] != len(ties):
            rooms = []
            for valuer in self.valuers:
                rooms.extend(valuer.terms_at(kind, states))
            rooms.append([(1, ())])
            forms = [summed(tie, rooms) for tie in ties]
            known = (len(ties), [terms for terms in forms if terms])
            self.forms[(kind, place)] = known
        return known[1]

    def accepts(self, state, kind, kids):
        """Whether the worths of this tree are not told by the trees ahead of it."""
        states = [self.states[kid] for kid in kids]
        worths = [self.vectors[kid] for kid in kids]
        vector = []
        for valuer in self.valuers:
            vector.extend(valuer.worths_at(kind, states, worths))
        vector.append(1)
        fewer = narrowed(self.ties[state], vector)
        if fewer is None:
            return False
        self.ties[state] = fewer
        self.vectors.append(vector)
        return True

    def keep(self, kind, kids, state, nodes):
        """Keep a basis tree; TooMany if it is too large, or else too deep."""
        tree = super().keep(kind, kids, state, nodes)
        if nodes > MOST_NODES:
            raise TooMany(MOST_NODES)
        if self.depths[tree] > MOST_LEVELS:
            raise TooMany(MOST_LEVELS)
        return tree


def summed(tie, rooms):
    """The terms of the sum of the rooms, each as often as the tie tells."""
    told = {}
    for often, terms in zip(tie, rooms):
        if often:
            for number, factors in terms:
                told[factors] = told.get(factors, 0) + often * number
    return [(told[factors], factors) for factors in told if told[factors]]
