"""Filling templates: what their blocks write of trees."""

from samewriting.compiling import due_items
from samewriting.errors import BadTree, TooMany
from samewriting.gathering import MOST_LETTERS
from samewriting.plainly import blocks_without_for
from samewriting.sets import check_set
from samewriting.templates import check_template
from samewriting.trees import check_tree, listed
from samewriting.walks import place_of


def filled(trees, template, tree):
    """What block 0 writes of a tree in the set."""
    check_set(trees)
    check_template(trees, template)
    check_tree(trees[1], tree)
    filling = Filling(trees, template)
    for kind, kids in listed(trees[1], tree):
        filling.take(kind, kids)
    top = len(filling.nodes) - 1
    if not filling.is_in(top):
        raise BadTree("not in the set")
    return filling.text_of(top)


class Filling:
    """What blocks write of nodes, told by numbers: only what is wanted is told, and each once."""

    def __init__(self, trees, template):
        self.trees = trees
        self.bodies = blocks_without_for(trees[1], template)
        self.nodes = []
        self.states = []
        self.ready = {}
        self.lengths = {}
        self.texts = {}

    def take(self, kind, kids):
        """Take the next node: its kind, and the numbers of its children."""
        states = tuple([self.states[kid] for kid in kids])
        self.nodes.append((kind, states, kids))
        self.states.append(self.trees[3][kind][place_of(self.trees[2], states)])

    def is_in(self, node):
        """Whether the tree of a node is in the set."""
        return self.states[node] in self.trees[4]

    def text_of(self, node):
        """What block 0 writes; TooMany for too many letters."""
        if self._length(0, node) > MOST_LETTERS:
            raise TooMany(MOST_LETTERS)
        # Long texts of many trees would be far too much to keep.
        self.texts = {}
        return self._text(0, node)

    def _items(self, block, node):
        """The says, and the calls (call, child, block), of a block there."""
        kind, states, _ = self.nodes[node]
        key = (block, kind, states)
        if key not in self.ready:
            self.ready[key] = due_items(self.bodies[block][kind], states)
        return self.ready[key]

    def _length(self, block, node):
        key = (block, node)
        if key not in self.lengths:
            kids = self.nodes[node][2]
            told = 0
            for item in self._items(block, node):
                told += len(item[1]) if item[0] == "say" else self._length(item[2], kids[item[1]])
            self.lengths[key] = told
        return self.lengths[key]

    def _text(self, block, node):
        key = (block, node)
        if key not in self.texts:
            kids = self.nodes[node][2]
            told = [item[1] if item[0] == "say" else self._text(item[2], kids[item[1]])
                    for item in self._items(block, node)]
            self.texts[key] = "".join(told)
        return self.texts[key]
