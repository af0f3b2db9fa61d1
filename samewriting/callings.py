"""Which blocks of a template are called on which children, for trees of which states."""

from samewriting.groves import Grove
from samewriting.walks import place_of, tuples_below


class Callings:
    """The callings of a template in the trees of a set: from a block on a tree to one on a child.

    The for of a name and a block counts as a block of its own, behind those of the template: on a
    tree of this name it calls the block on the first child, and itself on the second one. A calling
    is (kind, children's states, child, block there, block here); the other children are the least
    trees of their states, and `around` tells how many nodes they have, together with the root.
    """

    def __init__(self, trees, template):
        self.trees = trees
        self.template = template
        self.grove = Grove(trees[1], trees[2], trees[3], 1)
        self.grove.grow()
        self.fors = {}
        for block in template:
            for body in block:
                self._find_fors(body)
        self.rows = self._rows_with_trees()
        self.down = {}
        self.up = {}
        for kind, states, goal in self.rows:
            for block in range(len(template) + len(self.fors)):
                for below, child in sorted(set(self._called_at(block, kind, states))):
                    calling = (kind, states, child, below, block)
                    self.down.setdefault((goal, block), []).append(calling)
                    self.up.setdefault((states[child], below), []).append(calling)

    def _find_fors(self, body):
        for item in body:
            if item[0] == "for":
                self.fors.setdefault((item[1], item[3]), len(self.template) + len(self.fors))
            elif item[0] == "if":
                self._find_fors(item[3])
                self._find_fors(item[4])

    def _rows_with_trees(self):
        met = [state for state in range(self.trees[2]) if self.grove.lists[state]]
        found = []
        for kind, pair in enumerate(self.trees[1]):
            for spots in tuples_below(len(met), pair[1]):
                states = tuple([met[spot] for spot in spots])
                found.append((kind, states, self.goal_at(kind, states)))
        return found

    def goal_at(self, kind, states):
        """The state of a tree, by those of its children."""
        return self.trees[3][kind][place_of(self.trees[2], states)]

    def _called_at(self, block, kind, states):
        """The pairs (block, child) that a block calls."""
        if block < len(self.template):
            return self._called_by(self.template[block][kind], states)
        name, along = list(self.fors)[block - len(self.template)]
        return [(along, 0), (block, 1)] if self.trees[1][kind][0] == name else []

    def _called_by(self, body, states):
        told = []
        for item in body:
            if item[0] == "call":
                told.append((item[1], item[2]))
            elif item[0] == "for":
                told.append((self.fors[(item[1], item[3])], item[2]))
            elif item[0] == "if":
                told.extend(self._called_by(item[3] if states[item[1]] in item[2] else item[4], states))
        return told

    def nodes_of(self, states):
        """How many nodes the least trees of some states have together."""
        return sum([self.grove.sizes[self.grove.lists[state][0]] for state in states])

    def around(self, calling):
        """How many nodes stand around the child of a calling."""
        states, child = calling[1:3]
        return 1 + self.nodes_of(states[:child] + states[child + 1:])
