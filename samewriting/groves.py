"""Trees of an automaton's states, made in order: by size, then as tuples."""

from heapq import heappop, heappush

from samewriting.errors import TooMany
from samewriting.trees import MOST_LEVELS, MOST_NODES
from samewriting.walks import place_of, tuples_below


class Grove:
    """The least trees of each state, as many as are wanted, told by numbers.

    A tree may have more nodes than could ever be written: it is kept as its kind and the numbers
    of its children. The children of a wanted tree are wanted ones of their states, for each of
    them could give way to any tree of its state that is ahead of it.
    """

    def __init__(self, kinds, many, rows, most):
        self.kinds = kinds
        self.many = many
        self.rows = rows
        self.most = most
        self.lists = [[] for _ in range(many)]
        self.heads = []
        self.kids = []
        self.sizes = []
        self.depths = []
        self.states = []
        self.turns = []
        self.line = []
        self.places = []
        self.waiting = {}
        self.queue = []
        self.made = {}
        self.beside = [tuples_below(many, rank) if self._has_rank(rank + 1) else [] for rank in range(3)]

    def _has_rank(self, rank):
        return rank in [pair[1] for pair in self.kinds]

    def wants(self, state):
        """Whether a further tree of the state may be kept."""
        return len(self.lists[state]) < self.most

    def accepts(self, state, kind, kids):
        """Whether this tree, the next one of the state in order, is kept."""
        return self.wants(state)

    def grow(self):
        """Keep all trees that are wanted, in order."""
        for kind, pair in enumerate(self.kinds):
            if pair[1] == 0:
                self._offer(kind, (), self.rows[kind][0])
        while self.queue:
            self._settle(heappop(self.queue))

    def _offer(self, kind, kids, state):
        nodes = 1 + sum([self.sizes[kid] for kid in kids])
        if nodes not in self.waiting:
            self.waiting[nodes] = []
            heappush(self.queue, nodes)
        self.waiting[nodes].append((kind, kids, state))

    def _settle(self, nodes):
        offers = self.waiting.pop(nodes)
        in_order = sorted([(self.key_of(kind, kids), kids, state) for kind, kids, state in offers])
        fresh = []
        for key, kids, state in in_order:
            if self.wants(state) and self.accepts(state, key[0], kids):
                fresh.append(self.keep(key[0], kids, state, nodes))
        self.line_up(fresh)
        for tree in fresh:
            self._spread(tree)

    def key_of(self, kind, kids):
        """What trees of the same size stand in order by: their kinds, then the places of their children."""
        return [kind] + [self.places[kid] for kid in kids]

    def keep(self, kind, kids, state, nodes):
        """Keep a tree; its number."""
        tree = len(self.heads)
        self.heads.append(kind)
        self.kids.append(kids)
        self.sizes.append(nodes)
        self.depths.append(1 + max([self.depths[kid] for kid in kids], default=0))
        self.states.append(state)
        self.turns.append(len(self.lists[state]))
        self.lists[state].append(tree)
        self.places.append(0)
        return tree

    def line_up(self, fresh):
        """Put trees into the line of all trees, as tuples."""
        if not fresh:
            return
        for tree in fresh:
            key = self.key_of(self.heads[tree], self.kids[tree])
            low = 0
            high = len(self.line)
            while low < high:
                middle = (low + high) // 2
                standing = self.line[middle]
                if self.key_of(self.heads[standing], self.kids[standing]) < key:
                    low = middle + 1
                else:
                    high = middle
            self.line.insert(low, tree)
        for place, tree in enumerate(self.line):
            self.places[tree] = place

    def _spread(self, tree):
        own = self.states[tree]
        for kind, pair in enumerate(self.kinds):
            for spot in range(pair[1]):
                for states in self.beside[pair[1] - 1]:
                    full = states[:spot] + (own,) + states[spot:]
                    goal = self.rows[kind][place_of(self.many, full)]
                    if self.wants(goal):
                        for kids in self.kids_with(tree, spot, kind, full):
                            self._offer(kind, kids, goal)

    def kids_with(self, tree, spot, kind, states):
        """The children of these states, for a tree of this kind, with the newest tree first at this spot."""
        rows = [((), self.most // (self.turns[tree] + 1))]
        for at, state in enumerate(states):
            if at == spot:
                rows = [(row + (tree,), room) for row, room in rows]
            else:
                limit = tree if at > spot else tree - 1
                rows = [(row + (kid,), room // (self.turns[kid] + 1)) for row, room in rows
                        for kid in self.lists[state][:room] if kid <= limit]
        return [row for row, _ in rows]

    def least_of(self, trees):
        """The numbers of trees, in order."""
        return sorted(trees, key=self._standing)

    def _standing(self, tree):
        return self.sizes[tree], self.places[tree]

    def told(self, trees):
        """The trees with these numbers; TooMany if one is too large, then if one is too deep."""
        for tree in trees:
            if self.sizes[tree] > MOST_NODES:
                raise TooMany(MOST_NODES)
        for tree in trees:
            if self.depths[tree] > MOST_LEVELS:
                raise TooMany(MOST_LEVELS)
        return [self._built(tree) for tree in trees]

    def _built(self, tree):
        if tree not in self.made:
            kids = [self._built(kid) for kid in self.kids[tree]]
            self.made[tree] = (self.kinds[self.heads[tree]][0],) + tuple(kids)
        return self.made[tree]
