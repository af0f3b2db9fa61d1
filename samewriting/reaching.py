"""The least trees that come to the bodies of a template."""

from heapq import heappop, heappush

from samewriting.callings import Callings


class Reaching:
    """For each body of a template, told by its place, the least tree in the set that comes to it.

    What stands above a block's tree has at least so many nodes as `above` tells; so a body is
    reached at best with so many nodes in all, and just what comes to this number is gone through.
    """

    def __init__(self, trees, template):
        self.trees = trees
        self.callings = Callings(trees, template)
        self.grove = self.callings.grove
        self.numbers = {}
        for tree, kind in enumerate(self.grove.heads):
            self.numbers[(kind, self.grove.kids[tree])] = tree
        self.above = self._nodes_above()
        self.starts = {}
        for kind, states, goal in self.callings.rows:
            for block, bodies in enumerate(template):
                if (goal, block) in self.above:
                    nodes = 1 + self.callings.nodes_of(states) + self.above[(goal, block)]
                    self._begin((block, kind), bodies[kind], kind, states, nodes)

    def _nodes_above(self):
        """For each (state, block) called at all the least number of nodes that stand above."""
        told = {}
        queue = []
        for state in self.trees[4]:
            if self.grove.lists[state]:
                heappush(queue, (0, (state, 0)))
        while queue:
            nodes, key = heappop(queue)
            if key not in told:
                told[key] = nodes
                for calling in self.callings.down.get(key, []):
                    below = (calling[1][calling[2]], calling[3])
                    if below not in told:
                        heappush(queue, (nodes + self.callings.around(calling), below))
        return told

    def _begin(self, place, body, kind, states, nodes):
        """Let a row stand at a place, and at those of the bodies in it that are due, if no other has fewer nodes."""
        if place not in self.starts or nodes < self.starts[place][0]:
            self.starts[place] = (nodes, [])
        if nodes == self.starts[place][0]:
            self.starts[place][1].append((kind, states))
        for index, item in enumerate(body):
            if item[0] == "if":
                way = 0 if states[item[1]] in item[2] else 1
                self._begin(place + (index, way), item[3 + way], kind, states, nodes)

    def least_at(self, place):
        """The number of the least tree that comes to a place, None if none does."""
        if place not in self.starts:
            return None
        best, rows = self.starts[place]
        climb = Climb(self, best)
        for kind, states in rows:
            kids = tuple([self.grove.lists[state][0] for state in states])
            climb.offer((self.callings.goal_at(kind, states), place[0]), kind, kids)
        return climb.least_whole()

    def tree_of(self, kind, kids, state, nodes):
        """The number of a tree, each tree once; a new one is put into the line of all."""
        if (kind, kids) not in self.numbers:
            self.numbers[(kind, kids)] = self.grove.keep(kind, kids, state, nodes)
            self.grove.line_up([self.numbers[(kind, kids)]])
        return self.numbers[(kind, kids)]


class Climb:
    """From trees at which a body is gone through up to whole ones, with so many nodes in all."""

    def __init__(self, reaching, best):
        self.reaching = reaching
        self.grove = reaching.grove
        self.best = best
        self.waiting = {}
        self.queue = []

    def offer(self, key, kind, kids):
        """Let a tree for (state, block) wait, unless one ahead of it does, or too many nodes stand above."""
        above = self.reaching.above.get(key)
        nodes = 1 + sum([self.grove.sizes[kid] for kid in kids])
        if above is None or nodes + above > self.best:
            return
        if nodes not in self.waiting:
            self.waiting[nodes] = {}
            heappush(self.queue, nodes)
        waiting = self.waiting[nodes]
        if key not in waiting or self.grove.key_of(kind, kids) < self.grove.key_of(waiting[key][0], waiting[key][1]):
            waiting[key] = (kind, kids)

    def least_whole(self):
        """The number of the least whole tree."""
        while self.queue:
            nodes = heappop(self.queue)
            waiting = self.waiting.pop(nodes)
            found = {key: self.reaching.tree_of(kind, kids, key[0], nodes) for key, (kind, kids) in waiting.items()}
            if nodes == self.best:
                return self.grove.least_of(list(found.values()))[0]
            for key, tree in found.items():
                self._climb(key, tree)
        return None

    def _climb(self, key, tree):
        callings = self.reaching.callings
        for kind, states, child, _, block in callings.up.get(key, []):
            kids = [self.grove.lists[state][0] for state in states]
            kids[child] = tree
            self.offer((callings.goal_at(kind, states), block), kind, tuple(kids))
