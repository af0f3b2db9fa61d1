"""What the tests share: short ways to write trees, sets, polynomials and readers."""

import itertools
import random
import time
import unittest

from samewriting.errors import TooMany, WritingError

EF = (("e", 0), ("f", 2))
ES = (("e", 0), ("s", 1))
EFS = (("e", 0), ("f", 2), ("s", 1))
E = ("e",)

# What is seen by remainders of this prime must hold of its multiples too.
PRIME = 2305843009213693951

# Values of every kind that is none of the document's.
ODD = (None, True, False, 0, 1, -1, 2.5, "", "a", "set", b"e", (), [], {}, ("e", 0), [("e", 0)], ((),), (None,), object(), int)


def comb(many):
    """The tree of so many times s over e."""
    tree = E
    for _ in range(many):
        tree = ("s", tree)
    return tree


def left_comb(many):
    """The tree of so many times f, each further one on the left."""
    tree = E
    for _ in range(many):
        tree = ("f", tree, E)
    return tree


def balanced(levels):
    """The full tree of f."""
    tree = E
    for _ in range(levels - 1):
        tree = ("f", tree, tree)
    return tree


def set_of(kinds, many, rule, takes=()):
    """The set whose goals rule(name, states) tells."""
    rows = tuple(tuple(rule(name, states) for states in itertools.product(range(many), repeat=rank))
                 for name, rank in kinds)
    return ("set", kinds, many, rows, tuple(takes))


# With 10 states these have 4001 goals; the second ones have 3996 with 11.
FOUR_THREES = (("e", 0), ("f", 3), ("g", 3), ("h", 3), ("i", 3))
THREE_THREES = (("c", 0), ("d", 0), ("e", 0), ("f", 3), ("g", 3), ("h", 3))


def one_state(kinds):
    """The set of all trees, with one state."""
    return set_of(kinds, 1, lambda name, states: 0, (0,))


def of_parts(kinds, parts):
    """The set whose state k, the last one taken, has just the tree of part k, told as (name, number of a part, ..)."""
    states = {(part[0], part[1:]): number for number, part in enumerate(parts)}
    return set_of(kinds, len(parts) + 1, lambda name, below: states.get((name, below), len(parts)), (len(parts) - 1,))


# A tree of 400 nodes, in 11 unlike parts: full ones of 1, 3, .., 255 nodes, and f of 255 and s of f of 127 and 15.
FOUR_HUNDRED = (("e",), ("f", 0, 0), ("f", 1, 1), ("f", 2, 2), ("f", 3, 3), ("f", 4, 4), ("f", 5, 5), ("f", 6, 6),
                ("f", 6, 3), ("s", 8), ("f", 7, 9))


def cycle(many, takes=(), kinds=ES):
    """The set that counts the nodes above the leaves, going round."""
    return set_of(kinds, many, lambda name, states: (1 + sum(states)) % many if states else 0, takes)


def poly(*terms):
    """The polynomial of terms (coefficient, variable, variable, ..)."""
    told = {}
    for number, *variables in terms:
        powers = tuple(sorted((variable, variables.count(variable)) for variable in set(variables)))
        told[powers] = told.get(powers, 0) + number
    return tuple(sorted((powers, number) for powers, number in told.items() if number))


def power(variable, many):
    """A variable with a power."""
    return ((((variable, many),), 1),)


def numbers_of(trees, rooms, rule, end):
    """The number reader with the polynomials that rule(name, states) and end(state) tell."""
    rows = tuple(tuple(rule(name, states) for states in itertools.product(range(trees[2]), repeat=rank))
                 for name, rank in trees[1])
    return ("numbers", trees, rooms, rows, tuple(end(state) for state in range(trees[2])))


def readers_of(trees, rooms, rule, end):
    """The reader with the pieces that rule(name, states) and end(state) tell."""
    return ("reader",) + numbers_of(trees, rooms, rule, end)[1:]


def parts_of(value, path=()):
    """The paths to all values in a value, itself among them."""
    yield path
    if isinstance(value, tuple):
        for place, item in enumerate(value):
            yield from parts_of(item, path + (place,))


def at_path(value, path):
    for place in path:
        value = value[place]
    return value


def exchanged(value, path, other):
    """The value with another one at the end of the path."""
    if not path:
        return other
    return value[:path[0]] + (exchanged(value[path[0]], path[1:], other),) + value[path[0] + 1:]


def wrong_kinds(value):
    """The value with one part at a time of another kind: none of these can be right."""
    for path in parts_of(value):
        part = at_path(value, path)
        if isinstance(part, tuple):
            yield exchanged(value, path, list(part))
            yield exchanged(value, path, "x")
        elif isinstance(part, str):
            for other in (None, 0, (part,), [part], part.encode()):
                yield exchanged(value, path, other)
        elif isinstance(part, int):
            for other in (None, str(part), (part,), [part], part == 1, part + 0.0):
                yield exchanged(value, path, other)


def wrong_lengths(value):
    """The value with one item left out or doubled: (value, changed)."""
    for path in parts_of(value):
        part = at_path(value, path)
        if isinstance(part, tuple) and part:
            for place in range(len(part)):
                yield path, exchanged(value, path, part[:place] + part[place + 1:])
                yield path, exchanged(value, path, part[:place] + part[place:place + 1] + part[place:])


class Case(unittest.TestCase):
    """A test case that tells errors of the package."""

    def raises(self, error, function, *passed):
        with self.assertRaises(error) as told:
            function(*passed)
        self.assertIs(told.exception.__class__, error)
        return told.exception

    def too_many(self, most, function, *passed):
        self.assertEqual(self.raises(TooMany, function, *passed).most, most)

    def takes_none_of(self, function, values):
        for value in values:
            self.assertIs(function(value), False, repr(value)[:200])

    def within(self, seconds, function, *passed):
        begin = time.monotonic()
        try:
            told = function(*passed)
        except WritingError as error:
            told = error
        self.assertLess(time.monotonic() - begin, seconds)
        return told


def chance(seed):
    return random.Random(seed)


def random_kinds(choose):
    many = choose.randint(1, 4)
    names = sorted(choose.sample("abcdefg", many))
    ranks = [choose.choice((0, 0, 1, 1, 2, 2, 3)) for _ in names]
    if 0 not in ranks:
        ranks[choose.randrange(many)] = 0
    return tuple(zip(names, ranks))


def random_set(choose, kinds, most):
    many = choose.randint(1, most)
    takes = sorted(choose.sample(range(many), choose.randint(0, many)))
    return set_of(kinds, many, lambda name, states: choose.randrange(many), takes)


def every_tree(kinds, most):
    """All trees of at most so many nodes, in order, made from their sizes by hand."""
    by_size = {0: []}
    for nodes in range(1, most + 1):
        found = []
        for name, rank in kinds:
            for sizes in itertools.product(range(1, nodes), repeat=rank):
                if sum(sizes) == nodes - 1:
                    for kids in itertools.product(*[by_size[number] for number in sizes]):
                        found.append((name,) + kids)
        by_size[nodes] = sorted(found)
    return [tree for nodes in range(1, most + 1) for tree in by_size[nodes]]


def plain_state(trees, tree):
    """The state of a tree, told straight from the words of the document."""
    row = trees[3][[name for name, _ in trees[1]].index(tree[0])]
    place = 0
    for child in tree[1:]:
        place = place * trees[2] + plain_state(trees, child)
    return row[place]


def is_in_set(trees, tree):
    """Whether a tree is in a set, told straight from the words of the document."""
    return plain_state(trees, tree) in trees[4]


def nodes_in(tree):
    return 1 + sum(nodes_in(child) for child in tree[1:])


def levels_in(tree):
    return 1 + max([levels_in(child) for child in tree[1:]], default=0)


def random_numbers(choose, kinds, even=False):
    """A number reader of at most three states and two rooms."""
    trees = random_set(choose, kinds, 3)
    rooms = choose.randint(1, 2)
    ranks = dict(kinds)

    def factors_of(rank):
        if even:
            return [(child, choose.randrange(rooms)) for child in range(rank) if choose.random() < 0.6]
        return [(choose.randrange(rank), choose.randrange(rooms)) for _ in range(choose.randint(0, 2))] if rank else []

    def some(rank):
        terms = [(choose.choice((-2, -1, 1, 3)),) + tuple(factors_of(rank)) for _ in range(choose.randint(0, 2))]
        return poly(*terms)
    return numbers_of(trees, rooms, lambda name, states: tuple(some(ranks[name]) for _ in range(rooms)),
                      lambda state: some(1) if choose.random() < 0.7 else None)


def plain_value(polynomial, kids):
    """What a polynomial is at the worths of children."""
    total = 0
    for powers, number in polynomial:
        for (child, room), many in powers:
            for _ in range(many):
                number *= kids[child][room]
        total += number
    return total


def plain_worths(numbers, tree):
    """The worths of a tree, told straight from the words of the document."""
    place = 0
    for child in tree[1:]:
        place = place * numbers[1][2] + plain_state(numbers[1], child)
    kind = [name for name, _ in numbers[1][1]].index(tree[0])
    kids = [plain_worths(numbers, child) for child in tree[1:]]
    return tuple(plain_value(polynomial, kids) for polynomial in numbers[3][kind][place])


def plain_told(numbers, tree):
    """The number told of a tree, None if it is not let by."""
    end = numbers[4][plain_state(numbers[1], tree)]
    return None if end is None else plain_value(end, [plain_worths(numbers, tree)])


def with_turned_rooms(choose, numbers):
    """The same reader, with its rooms in another sequence."""
    order = list(range(numbers[2]))
    choose.shuffle(order)

    def turned(polynomial):
        return tuple(sorted((tuple(sorted(((child, order[room]), many) for (child, room), many in powers)), number)
                            for powers, number in polynomial))
    rows = tuple(tuple(tuple(turned(worths[order.index(room)]) for room in range(numbers[2])) for worths in row)
                 for row in numbers[3])
    return numbers[:3] + (rows, tuple(None if end is None else turned(end) for end in numbers[4]))
