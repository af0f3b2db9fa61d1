"""The least trees of all signs for a reader, made in order."""

from heapq import heappop, heappush

from samewriting.errors import TooMany
from samewriting.groves import Grove
from samewriting.walks import tuples_below


class SignGrove(Grove):
    """The least tree of each sign, a sign being the state of a tree and what its rooms hold.

    What rooms hold is told by signs, as in effects.Signs: rows with the first children put in are
    forms, each with its least children, and wait for the next child. A form counts as large as the
    tree that it begins, so trees and forms can be kept in order of their sizes.
    """

    def __init__(self, reader, signs, most):
        trees = reader[1]
        super().__init__(trees[1], trees[2], trees[3], 1 << 64)
        self.signs = signs
        self.limit = most
        self.worths = []
        self.numbers = {}
        self.met = {}
        self.forms = {}
        self.below = [tuples_below(self.many, rank) for _, rank in self.kinds]
        # For each state the (kind, place of a row, child) at which it stands.
        self.spots = [[] for _ in range(self.many)]
        for kind, row in enumerate(self.below):
            for place, states in enumerate(row):
                for child, state in enumerate(states):
                    self.spots[state].append((kind, place, child))

    def grow(self):
        """Keep the least trees of all signs; TooMany if there are too many signs."""
        for kind, pair in enumerate(self.kinds):
            for place in range(len(self.rows[kind])):
                form = self.signs.begun(kind, place)
                if pair[1] == 0:
                    self._offer_tree(kind, place, (), self.signs.done(form))
                else:
                    self._offer_form(kind, place, 0, form, ())
        while self.queue:
            self._settle_all(heappop(self.queue))

    def _offer_tree(self, kind, place, kids, value):
        key = (self.rows[kind][place], value)
        if key not in self.met:
            # That there are too many is seen here, long before all of them are in order.
            if len(self.met) == self.limit:
                raise TooMany(self.limit)
            self.met[key] = True
        if key not in self.numbers:
            self._offer_best(key, kind, kids)

    def _offer_form(self, kind, place, child, form, kids):
        if form not in self.forms.get((kind, place, child), {}):
            self._offer_best((kind, place, child, form), kind, kids)

    def _offer_best(self, key, kind, kids):
        """Let the first of the offers for a key, in order, wait."""
        nodes = 1 + sum([self.sizes[kid] for kid in kids])
        if nodes not in self.waiting:
            self.waiting[nodes] = {}
            heappush(self.queue, nodes)
        waiting = self.waiting[nodes]
        if key not in waiting or self.key_of(kind, kids) < self.key_of(waiting[key][0], waiting[key][1]):
            waiting[key] = (kind, kids)

    def _settle_all(self, nodes):
        offers = self.waiting.pop(nodes)
        fresh = []
        begun = []
        for key, (kind, kids) in offers.items():
            if len(key) == 2 and key not in self.numbers:
                fresh.append(self._keep_sign(key, kind, kids, nodes))
            elif len(key) == 4 and key[3] not in self.forms.get(key[:3], {}):
                begun.append((key, kids))
        self.line_up(fresh)
        for tree in fresh:
            self._put_in_forms(tree)
        for key, kids in begun:
            self.forms.setdefault(key[:3], {})[key[3]] = kids
            self._put_children_in(key, kids)

    def _keep_sign(self, key, kind, kids, nodes):
        self.numbers[key] = len(self.heads)
        self.worths.append(key[1])
        return self.keep(kind, kids, key[0], nodes)

    def _put_in_forms(self, tree):
        for spot in self.spots[self.states[tree]]:
            for form, kids in list(self.forms.get(spot, {}).items()):
                self._put_in(spot, form, kids, tree)

    def _put_children_in(self, key, kids):
        kind, place, child, form = key
        for tree in self.lists[self.below[kind][place][child]]:
            self._put_in(key[:3], form, kids, tree)

    def _put_in(self, spot, form, kids, tree):
        kind, place, child = spot
        told = self.signs.put_in(kind, place, child, form, self.worths[tree])
        if child + 1 == self.kinds[kind][1]:
            self._offer_tree(kind, place, kids + (tree,), self.signs.done(told))
        else:
            self._offer_form(kind, place, child + 1, told, kids + (tree,))
