"""Surroundings of states: trees with one place left, that tell the form trees of a state from one another."""

from heapq import heappop, heappush

from samewriting.linear import common_factor, product_of, stairs_of
from samewriting.telling import with_worths


class Contexts:
    """For each state of an even number reader so few surroundings that, with 1, they tell its form trees apart.

    Each is told by a number. It is the place itself, for a state with an end, or one level more:
    surroundings of the goal of a row, with form trees beside the place.
    """

    def __init__(self, forms):
        self.forms = forms
        self.tellings = forms.tellings
        # What is told of the form trees: 1 of each, then what each of the surroundings found tells.
        self.images = [[[1] * len(row)] if row else [] for row in forms.trees]
        self.found = [[] for _ in forms.trees]
        # Each that was offered, as (state, sum, link): a link is None for the place itself, or it is
        # (the surroundings of the node above, its kind, the trees ahead of the place, those behind it).
        self.offers = []
        self.queue = []

    def grow(self):
        """Find them all, those of fewest nodes first."""
        for state, end in enumerate(self.forms.numbers[4]):
            if end is not None and self.forms.trees[state]:
                self._offer(0, state, self.tellings.row_of_end(end), None)
        while self.queue:
            nodes, number = heappop(self.queue)
            state, row, _ = self.offers[number]
            image = self._image_of(state, row)
            if self._is_new(state, image):
                self.images[state].append(image)
                self.found[state].append(number)
                for kind, states in self.tellings.rows[state]:
                    self._spread(nodes, number, kind, states)

    def _offer(self, nodes, state, row, link):
        if self._is_new(state, self._image_of(state, row)):
            common = common_factor(row)
            self.offers.append((state, [number // common for number in row], link))
            heappush(self.queue, (nodes, len(self.offers) - 1))

    def _image_of(self, state, row):
        return [product_of(row, self.forms.spans.vectors[tree]) for tree in self.forms.trees[state]]

    def _is_new(self, state, image):
        return len(stairs_of(len(image), self.images[state] + [image])) > len(self.images[state])

    def _spread(self, nodes, number, kind, states):
        """Offer the surroundings of each child that has not enough of them, with form trees beside it."""
        terms = self.tellings.terms_above(kind, states, self.offers[number][1])
        for spot, state in enumerate(states):
            if len(self.images[state]) < len(self.forms.trees[state]):
                for more, trees, own in self._beside(terms, spot, states):
                    link = (number, kind, trees[:spot], trees[spot:])
                    self._offer(nodes + more, state, self.tellings.row_of(own), link)

    def _beside(self, terms, spot, states):
        """For all form trees beside a child: how many nodes, the trees, and the terms left."""
        spans = self.forms.spans
        found = [(1, [], terms)]
        for child, state in enumerate(states):
            if child != spot:
                found = [(nodes + spans.sizes[tree], trees + [tree], with_worths(own, child, spans.vectors[tree]))
                         for nodes, trees, own in found for tree in self.forms.trees[state]]
        return found
