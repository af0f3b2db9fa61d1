"""Kinds, and trees of them."""

from samewriting.errors import BadKinds, BadNumber, BadPath, BadTree, TooMany
from samewriting.values import is_between, is_rising, is_row
from samewriting.words import is_name

MOST_NODES = 400
MOST_LEVELS = 60
MOST_LISTED = 3000


def is_kinds(thing):
    """Whether any value is kinds: ascending pairs (name, rank), a rank 0 among them."""
    if not isinstance(thing, tuple) or not 1 <= len(thing) <= 6:
        return False
    if not all([_is_kind(pair) for pair in thing]):
        return False
    return is_rising([name for name, _ in thing]) and min([rank for _, rank in thing]) == 0


def _is_kind(thing):
    return is_row(thing, 2) and is_name(thing[0]) and is_between(thing[1], 0, 3)


def check_kinds(kinds):
    """Raise BadKinds unless these are kinds."""
    if not is_kinds(kinds):
        raise BadKinds("no kinds")


def is_tree(kinds, thing):
    """Whether any value is a tree of the kinds, within the bounds of size and depth."""
    check_kinds(kinds)
    return fits(kinds, thing)


def fits(kinds, thing):
    """Whether any value is a tree of what surely are kinds."""
    ranks = dict(kinds)
    nodes = 0
    levels = 0
    row = [thing]
    # Level by level: what shares its parts may be endless large, so the walk ends at the bounds.
    while row:
        nodes += len(row)
        levels += 1
        if nodes > MOST_NODES or levels > MOST_LEVELS:
            return False
        if not all([is_node(ranks, tree) for tree in row]):
            return False
        row = [child for tree in row for child in tree[1:]]
    return True


def is_node(ranks, thing):
    """Whether any value has the form of a node, by the ranks of names, its children being any values."""
    if not isinstance(thing, tuple) or not thing or not isinstance(thing[0], str):
        return False
    return thing[0] in ranks and len(thing) == ranks[thing[0]] + 1


def check_tree(kinds, tree):
    """Raise BadTree unless this is a tree of what surely are kinds."""
    if not fits(kinds, tree):
        raise BadTree("no tree of the kinds")


def size(kinds, tree):
    """How many nodes a tree has."""
    check_kinds(kinds)
    check_tree(kinds, tree)
    return sum([len(row) for row in _levels(tree)])


def depth(kinds, tree):
    """How many levels a tree has."""
    check_kinds(kinds)
    check_tree(kinds, tree)
    return len(_levels(tree))


def _levels(tree):
    found = []
    row = [tree]
    while row:
        found.append(row)
        row = [child for node in row for child in node[1:]]
    return found


def listed(kinds, tree):
    """The nodes of a tree, children first, each as (number of its kind, numbers of its children)."""
    numbers = {pair[0]: number for number, pair in enumerate(kinds)}
    nodes = []
    _list_nodes(numbers, tree, nodes)
    return nodes


def _list_nodes(numbers, tree, nodes):
    kids = [_list_nodes(numbers, child, nodes) for child in tree[1:]]
    nodes.append((numbers[tree[0]], kids))
    return len(nodes) - 1


def part(kinds, tree, path):
    """The tree to which a path leads."""
    check_kinds(kinds)
    check_tree(kinds, tree)
    return part_at(tree, path)


def part_at(tree, path):
    """As part, of what surely is a tree."""
    if not isinstance(path, tuple):
        raise BadPath("no tuple")
    for step in path:
        if not is_between(step, 0, len(tree) - 2):
            raise BadPath("no such child")
        tree = tree[step + 1]
    return tree


def with_part(kinds, tree, path, other):
    """The tree with another one at the end of the path."""
    check_kinds(kinds)
    check_tree(kinds, tree)
    return exchanged_at(kinds, tree, path, other)


def exchanged_at(kinds, tree, path, other):
    """As with_part, of what surely is a tree of kinds."""
    part_at(tree, path)
    check_tree(kinds, other)
    told = _put_at(tree, path, other)
    check_tree(kinds, told)
    return told


def _put_at(tree, path, other):
    if not path:
        return other
    spot = path[0] + 1
    return tree[:spot] + (_put_at(tree[spot], path[1:], other),) + tree[spot + 1:]


def count(kinds, many):
    """How many trees of this size there are, of whatever depth."""
    check_kinds(kinds)
    if not is_between(many, 1, 200):
        raise BadNumber("not from 1 to 200")
    return counts_to(kinds, many)[many]


def counts_to(kinds, many):
    """How many trees there are of each size, from 0 to many."""
    ranks = [rank for _, rank in kinds]
    counts = [0]
    # ways[r][n] tells how many rows of r trees have n nodes together.
    ways = [[1], [0], [0], [0]]
    for nodes in range(1, many + 1):
        counts.append(sum([ways[rank][nodes - 1] for rank in ranks]))
        ways[0].append(0)
        ways[1].append(counts[nodes])
        for rank in (2, 3):
            row = ways[rank - 1]
            ways[rank].append(sum([counts[k] * row[nodes - k] for k in range(1, nodes)]))
    return counts


def trees_of(kinds, many):
    """All trees of this size, in order."""
    check_kinds(kinds)
    if not is_between(many, 1, 12):
        raise BadNumber("not from 1 to 12")
    counts = counts_to(kinds, many)
    if counts[many] > MOST_LISTED:
        raise TooMany(MOST_LISTED)
    entries = trees_of_sizes(kinds, _sizes_within(kinds, counts, many))
    return tuple([entry[1] for entry in entries if entry[0] == many])


def _sizes_within(kinds, counts, many):
    """The sizes that parts of trees of the size many have: other ones may have far too many trees."""
    ranks = [rank for _, rank in kinds]
    found = [0] * many + [counts[many]]
    for nodes in range(many, 0, -1):
        if found[nodes]:
            for sizes in _splittings(ranks, nodes):
                if all([counts[n] for n in sizes]):
                    for n in sizes:
                        found[n] = counts[n]
    return [nodes for nodes in range(1, many + 1) if found[nodes]]


def _splittings(ranks, nodes):
    return [sizes for rank in ranks for sizes in _splits(nodes - 1, rank)]


def _splits(total, parts):
    """All tuples of so many numbers from 1 on with this sum."""
    if parts == 0:
        return [()] if total == 0 else []
    return [(first,) + rest for first in range(1, total + 1) for rest in _splits(total - first, parts - 1)]


def trees_of_sizes(kinds, sizes):
    """All trees of ascending sizes, in order, as (size, tree, number of its kind, numbers of its children)."""
    entries = []
    by_size = {}
    for nodes in sizes:
        found = []
        for kind, (name, rank) in enumerate(kinds):
            for kids in _kids_of_sizes(by_size, _splits(nodes - 1, rank)):
                tree = (name,) + tuple([entries[kid][1] for kid in kids])
                found.append((nodes, tree, kind, kids))
        by_size[nodes] = list(range(len(entries), len(entries) + len(found)))
        entries.extend(sorted(found))
    return entries


def _kids_of_sizes(by_size, splits):
    found = []
    for sizes in splits:
        rows = [()]
        for nodes in sizes:
            rows = [row + (kid,) for row in rows for kid in by_size.get(nodes, [])]
        found.extend(rows)
    return found
