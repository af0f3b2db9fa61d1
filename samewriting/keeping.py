"""Trees that are read by a reader, with the state and the texts of the rooms of each node kept."""

from samewriting.errors import TooMany
from samewriting.gathering import MOST_LETTERS
from samewriting.walks import place_of


class Node:
    """A node: its kind, its state, the texts of its rooms, the nodes below it. It is never changed."""

    def __init__(self, kind, state, rooms, kids):
        self.kind = kind
        self.state = state
        self.rooms = rooms
        self.kids = kids

    def is_like(self, other):
        """Whether both have the same state and the same rooms."""
        return self.state == other.state and self.rooms == other.rooms

    def node_below(self, path):
        """The node at the end of a path."""
        node = self
        for step in path:
            node = node.kids[step]
        return node

    def with_kid(self, step, kid):
        """The nodes below it with another one at a step."""
        return self.kids[:step] + [kid] + self.kids[step + 1:]

    def many_nodes(self):
        """How many nodes its tree has."""
        return 1 + sum([kid.many_nodes() for kid in self.kids])


class NodeMaker:
    """Makes nodes, by a reader."""

    def __init__(self, reader):
        self.reader = reader
        self.numbers = {pair[0]: number for number, pair in enumerate(reader[1][1])}

    def read(self, tree):
        """The node of a tree, each node in it told anew."""
        return self.node_above(self.numbers[tree[0]], [self.read(child) for child in tree[1:]])

    def node_above(self, kind, kids):
        """The node of a kind above some nodes; TooMany if a room has too many letters."""
        trees = self.reader[1]
        place = place_of(trees[2], [kid.state for kid in kids])
        rooms = tuple([put_together(pieces, kids) for pieces in self.reader[3][kind][place]])
        return Node(kind, trees[3][kind][place], rooms, kids)


def put_together(pieces, kids):
    """The text of pieces, the children being nodes; TooMany if it is too long."""
    texts = [item[1] if item[0] == "say" else kids[item[1]].rooms[item[2]] for item in pieces]
    if sum([len(letters) for letters in texts]) > MOST_LETTERS:
        raise TooMany(MOST_LETTERS)
    return "".join(texts)
