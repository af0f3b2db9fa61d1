"""Graphs: which nodes lead to one another, and ways between nodes."""


class Components:
    """Numbers for nodes: those that lead to one another have the same one (R. Tarjan)."""

    def __init__(self, edges_of):
        self.edges_of = edges_of
        self.order = {}
        self.low = {}
        self.on_way = []
        self.numbers = {}

    def look_from(self, root):
        """Number all nodes to which a node leads."""
        if root in self.order:
            return
        # Each node on the trail with its edges and how many of them were gone: no call is nested deep.
        trail = [[root, self._entered(root), 0]]
        while trail:
            node, goals, gone = trail[-1]
            if gone == len(goals):
                trail.pop()
                self._left(node)
                if trail:
                    self._lower(trail[-1][0], self.low[node])
            else:
                trail[-1][2] += 1
                goal = goals[gone]
                if goal not in self.order:
                    trail.append([goal, self._entered(goal), 0])
                elif goal not in self.numbers:
                    self._lower(node, self.order[goal])

    def _entered(self, node):
        self.order[node] = len(self.order)
        self.low[node] = self.order[node]
        self.on_way.append(node)
        return self.edges_of(node)

    def _lower(self, node, number):
        self.low[node] = min(self.low[node], number)

    def _left(self, node):
        if self.low[node] == self.order[node]:
            last = None
            while last != node:
                last = self.on_way.pop()
                self.numbers[last] = self.order[node]


def way_to(start, goal, labelled_edges, most=1 << 64):
    """The labels along a shortest way of at least one edge, None if there is none, or if more nodes are gone through.

    labelled_edges(node) tells the pairs (label, node) of the edges from a node.
    """
    back = {}
    row = [start]
    while row and goal not in back and most > 0:
        further = []
        for node in row[:most]:
            for label, other in labelled_edges(node):
                if other not in back:
                    back[other] = (node, label)
                    further.append(other)
            if goal in back:
                break
        most -= len(row)
        row = further
    return _labels_to(back, start, goal) if goal in back else None


def _labels_to(back, start, goal):
    node, label = back[goal]
    told = [label]
    while node != start:
        node, label = back[node]
        told.append(label)
    return told[::-1]
