"""What an even number reader is at least: its form trees, and how all trees are made up of them."""

from samewriting.errors import TooMany
from samewriting.evens import lowest, spans_of
from samewriting.linear import combined, stairs_of
from samewriting.numbers import check_numbers, worths_within
from samewriting.telling import Tellings
from samewriting.trees import check_tree
from samewriting.walks import place_of, tuples_below

MOST_MADE = 4000


def form_trees(numbers):
    """For each state the trees that are not made up of trees ahead of them."""
    check_numbers(numbers)
    return Forms(numbers).told()


def ranks(numbers):
    """For each state how many form trees it has."""
    check_numbers(numbers)
    return tuple([len(row) for row in Forms(numbers).trees])


def make_up(numbers, tree):
    """How often each form tree of its state is in a tree, as pairs (n, d)."""
    check_numbers(numbers)
    check_tree(numbers[1][1], tree)
    forms = Forms(numbers)
    state, worths = worths_within(numbers, tree)
    return forms.made_up(state, list(worths) + [1])


def form(numbers):
    """("form", trees, rows, ends): two readers on one machine are the same exactly if theirs are equal."""
    check_numbers(numbers)
    forms = Forms(numbers)
    if forms.many_made() > MOST_MADE:
        raise TooMany(MOST_MADE)
    rows = []
    for kind, pair in enumerate(numbers[1][1]):
        rows.append(tuple([forms.made_at(kind, states) for states in tuples_below(numbers[1][2], pair[1])]))
    return ("form", forms.told(), tuple(rows), tuple([forms.end_at(state) for state in range(numbers[1][2])]))


class Forms:
    """The form trees of each state, told by the numbers of basis trees; NotEven, TooMany as basis."""

    def __init__(self, numbers):
        self.numbers = numbers
        self.spans = spans_of(numbers)
        self.tellings = Tellings(numbers, self.spans)
        self.trees = []
        self.images = []
        for state, row in enumerate(self.spans.lists):
            trees, images = self._picked(state, row)
            self.trees.append(trees)
            self.images.append(images)

    def _picked(self, state, row):
        """The form trees among the basis trees of a state, and what its sums tell of them."""
        trees = []
        images = []
        for tree in row:
            image = self.tellings.image_of(state, self.spans.vectors[tree])
            if len(stairs_of(len(image), images + [image])) > len(images):
                trees.append(tree)
                images.append(image)
        return trees, images

    def told(self):
        """The form trees themselves."""
        return tuple([tuple(self.spans.told(row)) for row in self.trees])

    def made_up(self, state, vector):
        """The make-up of a tree with these worths, and a 1 behind them."""
        many, factors = combined(self.images[state], self.tellings.image_of(state, vector))
        return tuple([lowest(factor, many) for factor in factors])

    def many_made(self):
        """How many trees have form trees as children, in all."""
        many = sum([len(row) for row in self.trees])
        return sum([many ** (int(rank) % 4) for _, rank in self.numbers[1][1]])

    def made_above(self, kind, states):
        """The goal of a row, and the worths of all trees of this kind whose children are form trees of these states."""
        trees = self.numbers[1]
        rows = [()]
        for state in states:
            rows = [row + (tree,) for row in rows for tree in self.trees[state]]
        found = [self.tellings.valuer.worths_at(kind, states, [self.spans.vectors[tree] for tree in row]) + [1]
                 for row in rows]
        return trees[3][kind][place_of(trees[2], states)], rows, found

    def made_at(self, kind, states):
        """The make-ups of all trees of a kind whose children are form trees of these states."""
        goal, _, found = self.made_above(kind, states)
        return tuple([self.made_up(goal, vector) for vector in found])

    def end_at(self, state):
        """The numbers told of the form trees of a state, None if it has no end, or no trees."""
        if self.numbers[4][state] is None or not self.trees[state]:
            return None
        return tuple([self.tellings.valuer.end_at(state, self.spans.vectors[tree]) for tree in self.trees[state]])
