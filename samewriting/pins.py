"""Trees that pin a number reader: who tells the same of them, and has no greater ranks, is the same."""

from samewriting.contexts import Contexts
from samewriting.errors import TooMany
from samewriting.forms import MOST_MADE, Forms
from samewriting.numbers import check_numbers
from samewriting.trees import MOST_LEVELS, MOST_NODES
from samewriting.walks import product_of_all, tuples_below


def pins(numbers):
    """An ascending tuple of trees by which a number reader is told from all others of no greater ranks."""
    check_numbers(numbers)
    pinning = Pinning(Forms(numbers))
    pinning.take_all()
    return tuple(sorted(pinning.told()))


class Pinning:
    """The pins of a number reader, each once, and the trees in them: told by numbers."""

    def __init__(self, forms):
        self.forms = forms
        self.nodes = []
        self.numbers = {}
        self.found = {}
        # The numbers of the basis trees, in the order in which they were kept.
        self.own = []
        for kind, kids in zip(forms.spans.heads, forms.spans.kids):
            self.own.append(self._node(kind, tuple([self.own[kid] for kid in kids])))

    def take_all(self):
        """Take the form trees, and all that comes of putting form trees, and trees above them, in surroundings."""
        self._check_many()
        contexts = Contexts(self.forms)
        contexts.grow()
        for row in self.forms.trees:
            for tree in row:
                self._take(self.own[tree])
        for state, row in enumerate(self.forms.trees):
            for tree in row:
                self._put_in_all(contexts, state, self.own[tree])
        trees = self.forms.numbers[1]
        for kind, pair in enumerate(trees[1]):
            for goal, states in zip(trees[3][kind], tuples_below(trees[2], pair[1])):
                if contexts.found[goal]:
                    self._put_in_above(contexts, goal, kind, states)

    def _check_many(self):
        """Raise TooMany if trees with form trees below are too many for the surroundings of one state alone."""
        ranks = [len(row) for row in self.forms.trees]
        above = [0] * len(ranks)
        for goal, rows in enumerate(self.forms.tellings.rows):
            for _, states in rows:
                above[goal] += product_of_all([ranks[state] for state in states])
        if max([many for many, rank in zip(above, ranks) if rank > 1], default=0) > MOST_MADE:
            raise TooMany(MOST_MADE)

    def _put_in_above(self, contexts, goal, kind, states):
        """Put the trees of a kind whose children are form trees of some states in all surroundings of their goal."""
        rows = [()]
        for state in states:
            rows = [row + (tree,) for row in rows for tree in self.forms.trees[state]]
        for row in rows:
            self._put_in_all(contexts, goal, self._node(kind, tuple([self.own[tree] for tree in row])))

    def _take(self, number):
        self.found[number] = True
        if len(self.found) > MOST_MADE:
            raise TooMany(MOST_MADE)

    def _node(self, kind, kids):
        """The number of a tree, by the numbers of its children."""
        key = (kind, kids)
        if key not in self.numbers:
            self.numbers[key] = len(self.nodes)
            self.nodes.append(key)
        return self.numbers[key]

    def _put_in_all(self, contexts, state, number):
        """Put a tree of a state in all surroundings of it."""
        for context in contexts.found[state]:
            told = number
            link = contexts.offers[context][2]
            while link is not None:
                above, kind, ahead, behind = link
                kids = [self.own[tree] for tree in ahead] + [told] + [self.own[tree] for tree in behind]
                told = self._node(kind, tuple(kids))
                link = contexts.offers[above][2]
            self._take(told)

    def told(self):
        """The pins themselves; TooMany if one is too large, then if one is too deep."""
        sizes = []
        depths = []
        for _, kids in self.nodes:
            sizes.append(1 + sum([sizes[kid] for kid in kids]))
            depths.append(1 + max([depths[kid] for kid in kids], default=0))
        if max([sizes[pin] for pin in self.found], default=0) > MOST_NODES:
            raise TooMany(MOST_NODES)
        if max([depths[pin] for pin in self.found], default=0) > MOST_LEVELS:
            raise TooMany(MOST_LEVELS)
        return self._built(sizes)

    def _built(self, sizes):
        kinds = self.forms.numbers[1][1]
        made = []
        for number, (kind, kids) in enumerate(self.nodes):
            # What is too large to be a pin stands in none.
            if sizes[number] <= MOST_NODES:
                made.append((kinds[kind][0],) + tuple([made[kid] for kid in kids]))
            else:
                made.append(None)
        return [made[pin] for pin in self.found]
