"""Changes of trees: what a reader writes of them then, and what is told anew."""

from samewriting.errors import NotLetBy
from samewriting.keeping import Node, NodeMaker, put_together
from samewriting.readers import Reading, check_reader
from samewriting.surroundings import Surroundings
from samewriting.trees import check_tree, exchanged_at, part_at


class Keeper:
    """A tree that is kept and changed, with the state and the rooms of each node in it."""

    def __init__(self, reader, tree):
        check_reader(reader)
        check_tree(reader[1][1], tree)
        self._maker = NodeMaker(reader)
        self._now = (tree, self._maker.read(tree))
        # What each put took the place of: it shares its nodes with what came.
        self._before = []

    def put(self, path, other):
        """Keep the tree with another one at the end of the path; how many nodes were told anew."""
        tree, root = self._now
        told = exchanged_at(self._maker.reader[1][1], tree, path, other)
        fresh = self._maker.read(other)
        many = fresh.many_nodes()
        is_like = fresh.is_like(root.node_below(path))
        for length in range(len(path) - 1, -1, -1):
            old = root.node_below(path[:length])
            kids = old.with_kid(path[length], fresh)
            if is_like:
                fresh = Node(old.kind, old.state, old.rooms, kids)
            else:
                fresh = self._maker.node_above(old.kind, kids)
                many += 1
                is_like = fresh.is_like(old)
        self._before.append(self._now)
        self._now = (told, fresh)
        return many

    def undo(self):
        """Take back the last put that is not taken back yet; whether there is one."""
        if not self._before:
            return False
        self._now = self._before.pop()
        return True

    def tree(self):
        """The kept tree."""
        return self._now[0]

    def text(self):
        """What is written of the kept tree, None if it is not let by."""
        root = self._now[1]
        end = self._maker.reader[4][root.state]
        return None if end is None else put_together(end, [root])

    def kept(self, path):
        """The state and the texts of the rooms of a part."""
        tree, root = self._now
        part_at(tree, path)
        node = root.node_below(path)
        return node.state, node.rooms


def _both_trees(reader, tree, path, other):
    """The tree, and what comes if the other one is put at the end of the path."""
    check_reader(reader)
    check_tree(reader[1][1], tree)
    return [tree, exchanged_at(reader[1][1], tree, path, other)]


def changed(reader, tree, path, other):
    """The paths to the nodes, on the way to the end of the path, that have another state or rooms then."""
    both = _both_trees(reader, tree, path, other)
    maker = NodeMaker(reader)
    old, new = [maker.read(one) for one in both]
    ways = [path[:length] for length in range(len(path) + 1)]
    return tuple([way for way in ways if not old.node_below(way).is_like(new.node_below(way))])


def stretch(reader, tree, path, other):
    """(start, old, new): the new text is the old one with, from start on, new in the place of old."""
    readings = [Reading(reader, one) for one in _both_trees(reader, tree, path, other)]
    if None in [reading.end for reading in readings]:
        raise NotLetBy("one of both trees is not let by")
    old, new = [reading.text() for reading in readings]
    start = _many_in_common(old, new)
    behind = _many_in_common(old[start:][::-1], new[start:][::-1])
    return start, old[start:len(old) - behind], new[start:len(new) - behind]


def _many_in_common(one, other):
    """With how many letters both begin."""
    for place, letters in enumerate(zip(one, other)):
        if letters[0] != letters[1]:
            return place
    return min(len(one), len(other))


def around(reader, tree, path):
    """For each state what is written if the part at the path has it: texts, and numbers of the part's rooms."""
    check_reader(reader)
    check_tree(reader[1][1], tree)
    part_at(tree, path)
    surroundings = Surroundings(reader, tree, path)
    return tuple([surroundings.told_at(state) for state in range(reader[1][2])])
