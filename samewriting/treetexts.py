"""The texts of trees: each tree has one, which is read as it."""

from samewriting.errors import BadText
from samewriting.reading import Cursor
from samewriting.trees import MOST_LEVELS, MOST_NODES, check_kinds, check_tree

# It stands at the end of what is read, as the end of a name there is to be seen by what comes behind it.
_STOP = "\n"


def tree_text(kinds, tree):
    """The text of a tree."""
    check_kinds(kinds)
    check_tree(kinds, tree)
    return _text_of(tree)


def _text_of(tree):
    if len(tree) == 1:
        return tree[0]
    return tree[0] + "(" + ",".join([_text_of(child) for child in tree[1:]]) + ")"


def tree_of(kinds, text):
    """The tree with this text; BadText behind the longest beginning with which some tree's text begins."""
    check_kinds(kinds)
    if not isinstance(text, str):
        raise BadText(0)
    reader = TreeReader(kinds, text + _STOP)
    told = reader.read()
    if reader.cursor.at <= len(text):
        raise BadText(reader.cursor.at - 1)
    return told


class TreeReader:
    """Reads a tree. Whatever is begun can be ended, by leaves, if these keep the bounds too."""

    def __init__(self, kinds, text):
        self.kinds = kinds
        self.cursor = Cursor(text)
        # The nodes above, each as (kind, children so far); `nodes` are so many, those to come among them.
        self.above = []
        self.nodes = 1

    def read(self):
        """The tree."""
        told = None
        while told is None:
            kind = self._next_kind()
            name, rank = self.kinds[kind]
            if rank > 0:
                self.above.append((kind, []))
                self.nodes += rank
            else:
                told = self._put((name,))
        return told

    def _next_kind(self):
        """The kind of the next node; what stands behind its name is read too."""
        found = []
        words = []
        for kind, (name, rank) in enumerate(self.kinds):
            fits = self.nodes + rank <= MOST_NODES and (rank == 0 or len(self.above) + 2 <= MOST_LEVELS)
            if fits:
                found.append(kind)
                words.append(name + ("(" if rank > 0 else self._behind()))
        return found[self.cursor.take_one_of(words)]

    def _behind(self):
        """What stands behind a tree at this place."""
        if not self.above:
            return _STOP
        kind, kids = self.above[-1]
        return ")" if len(kids) + 1 == self.kinds[kind][1] else ","

    def _put(self, tree):
        """Put a tree where it stands, and those that end with it; the whole tree, None if more is to come."""
        while self.above:
            kind, kids = self.above[-1]
            kids.append(tree)
            if len(kids) < self.kinds[kind][1]:
                return None
            self.above.pop()
            tree = (self.kinds[kind][0],) + tuple(kids)
            self.cursor.take_word(self._behind())
        return tree
