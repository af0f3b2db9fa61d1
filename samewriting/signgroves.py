"""The least trees of all signs for a reader, made in order."""

from heapq import heappop, heappush

from samewriting.errors import TooMany
from samewriting.groves import Grove
from samewriting.walks import tuples_below


class SignGrove(Grove):
    """The least trees of each sign, `each` of them; a sign is the state of a tree and what its rooms hold.

    What rooms hold is told by signs, as by the classes of rowforms: rows with the first children put in are
    forms, each with its least children, and wait for the next child. A form counts as large as the
    tree that it begins, so trees and forms can be kept in order of their sizes.
    """

    def __init__(self, reader, signs, most, each=1):
        trees = reader[1]
        super().__init__(trees[1], trees[2], trees[3], 1 << 64)
        self.signs = signs
        self.limit = most
        self.each = each
        self.worths = []
        self.numbers = {}
        self.turns_of = {}
        self.forms = {}
        self.many_forms = 0
        # For each tree the first one of its sign; what comes of forms, told by their numbers, with a sign put in.
        self.firsts = []
        self.known = {}
        self.below = [tuples_below(self.many, rank) for _, rank in self.kinds]
        # For each state the (kind, place of a row, child) at which it stands.
        self.spots = [[] for _ in range(self.many)]
        for kind, row in enumerate(self.below):
            for place, states in enumerate(row):
                for child, state in enumerate(states):
                    self.spots[state].append((kind, place, child))

    def grow(self):
        """Keep the least trees of all signs; TooMany if there are too many signs."""
        for kind, pair in enumerate(self.kinds):
            for place in range(len(self.rows[kind])):
                form = self.signs.begun(kind, place)
                if pair[1] == 0:
                    self._offer_tree(kind, place, (), self.signs.done(form))
                else:
                    self._offer_form(kind, place, 0, form, ())
        while self.queue:
            self._settle_all(heappop(self.queue))

    def _offer_tree(self, kind, place, kids, value):
        key = (self.rows[kind][place], value)
        if key not in self.turns_of:
            # That there are too many is seen here, long before all of them are in order.
            if len(self.turns_of) == self.limit:
                raise TooMany(self.limit)
            self.turns_of[key] = 0
        if self.turns_of[key] < self.each:
            self._offer_best(key, kind, kids)

    def _offer_form(self, kind, place, child, form, kids):
        if len(self.forms.get((kind, place, child), {}).get(form, (0, ()))[1]) < self.each:
            self._offer_best((kind, place, child, form), kind, kids)

    def _offer_best(self, key, kind, kids):
        """Let the first ones of the offers for a key, in order, wait."""
        nodes = 1 + sum([self.sizes[kid] for kid in kids])
        if nodes not in self.waiting:
            self.waiting[nodes] = {}
            heappush(self.queue, nodes)
        rows = self.waiting[nodes].setdefault(key, [])
        rows.append((kind, kids))
        spot = len(rows) - 1
        while spot > 0 and self.key_of(kind, kids) < self.key_of(rows[spot - 1][0], rows[spot - 1][1]):
            rows[spot - 1], rows[spot] = rows[spot], rows[spot - 1]
            spot -= 1
        if len(rows) > self.each:
            rows.pop()

    def _settle_all(self, nodes):
        offers = self.waiting.pop(nodes)
        fresh = []
        begun = []
        for key, rows in offers.items():
            for kind, kids in rows:
                if len(key) == 4:
                    begun.append((key, kids))
                elif self.turns_of[key] < self.each:
                    fresh.append(self._keep_sign(key, kind, kids, nodes))
        self.line_up(fresh)
        for tree in fresh:
            self._put_in_forms(tree)
        for key, kids in begun:
            number, rows = self._numbered(key[:3], key[3])
            if len(rows) < self.each:
                rows.append(kids)
                self._put_children_in(key, number, kids)

    def _numbered(self, spot, form):
        """The number of a form, and the children in it so far."""
        forms = self.forms.setdefault(spot, {})
        if form not in forms:
            forms[form] = (self.many_forms, [])
            self.many_forms += 1
        return forms[form]

    def _keep_sign(self, key, kind, kids, nodes):
        self.turns_of[key] += 1
        self.firsts.append(self.numbers.setdefault(key, len(self.heads)))
        self.worths.append(key[1])
        return self.keep(kind, kids, key[0], nodes)

    def _put_in_forms(self, tree):
        for spot in self.spots[self.states[tree]]:
            for form, (number, rows) in list(self.forms.get(spot, {}).items()):
                told = self._told_with(spot, form, number, tree)
                for kids in rows:
                    self._offer_put_in(spot, told, kids + (tree,))

    def _put_children_in(self, key, number, kids):
        kind, place, child, form = key
        for tree in self.lists[self.below[kind][place][child]]:
            self._offer_put_in(key[:3], self._told_with(key[:3], form, number, tree), kids + (tree,))

    def _told_with(self, spot, form, number, tree):
        """What comes of a form with a tree of some sign put in: a form, or what the rooms hold."""
        if self.each == 1:
            return self._put_in(spot, form, tree)
        key = (number, self.firsts[tree])
        if key not in self.known:
            self.known[key] = self._put_in(spot, form, tree)
        return self.known[key]

    def _put_in(self, spot, form, tree):
        kind, place, child = spot
        told = self.signs.put_in(kind, place, child, form, self.worths[tree])
        return self.signs.done(told) if child + 1 == self.kinds[kind][1] else told

    def _offer_put_in(self, spot, told, kids):
        kind, place, child = spot
        if child + 1 == self.kinds[kind][1]:
            self._offer_tree(kind, place, kids, told)
        else:
            self._offer_form(kind, place, child + 1, told, kids)
