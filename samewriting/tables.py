"""Tables: trees, as large as can be, told by rows that refer to earlier ones."""

from samewriting.errors import BadTable, TooMany
from samewriting.sets import check_set, states_in
from samewriting.trees import MOST_LEVELS, MOST_NODES, check_kinds, check_tree, listed
from samewriting.values import is_between, is_row, is_word

_MOST_ROWS = 400


def is_table(kinds, thing):
    """Whether any value is a table of kinds."""
    check_kinds(kinds)
    return _fits(kinds, thing)


def _fits(kinds, thing):
    """Whether any value is a table of what surely are kinds."""
    if not is_row(thing, 2) or not is_word(thing[0], "table"):
        return False
    rows = thing[1]
    if not isinstance(rows, tuple) or not 1 <= len(rows) <= _MOST_ROWS:
        return False
    ranks = dict(kinds)
    return all([_is_row_at(ranks, row, place) for place, row in enumerate(rows)])


def _is_row_at(ranks, thing, place):
    if not isinstance(thing, tuple) or not thing or not isinstance(thing[0], str) or thing[0] not in ranks:
        return False
    return is_row(thing, ranks[thing[0]] + 1) and all([is_between(number, 0, place - 1) for number in thing[1:]])


def check_table(kinds, table):
    """Raise BadTable unless this is a table of what surely are kinds."""
    if not _fits(kinds, table):
        raise BadTable("no table of the kinds")


def nodes_of(kinds, table):
    """The rows of a table as (number of the kind, numbers of the children), as listed tells nodes."""
    numbers = {pair[0]: number for number, pair in enumerate(kinds)}
    return [(numbers[row[0]], list(row[1:])) for row in table[1]]


def size_told(kinds, table):
    """How many nodes the tree of a table has."""
    check_kinds(kinds)
    check_table(kinds, table)
    return _size_of(table)


def _size_of(table):
    sizes = []
    for row in table[1]:
        sizes.append(1 + sum([sizes[number] for number in row[1:]]))
    return sizes[-1]


def depth_told(kinds, table):
    """How many levels the tree of a table has."""
    check_kinds(kinds)
    check_table(kinds, table)
    return _depth_of(table)


def _depth_of(table):
    depths = []
    for row in table[1]:
        depths.append(1 + max([depths[number] for number in row[1:]], default=0))
    return depths[-1]


def tree_told(kinds, table):
    """The tree of a table."""
    check_kinds(kinds)
    check_table(kinds, table)
    if _size_of(table) > MOST_NODES:
        raise TooMany(MOST_NODES)
    if _depth_of(table) > MOST_LEVELS:
        raise TooMany(MOST_LEVELS)
    made = []
    # A tree shares its parts: so rows that do not come into it take no place either.
    for row in table[1]:
        made.append((row[0],) + tuple([made[number] for number in row[1:]]))
    return made[-1]


def table_from(kinds, tree):
    """The table that tells each unlike tree in a tree once, in the order of their first ends."""
    check_kinds(kinds)
    check_tree(kinds, tree)
    return _least_from(kinds, listed(kinds, tree))


def least_table(kinds, table):
    """The table that tells each unlike tree in the tree of a table once, in the order of their first ends."""
    check_kinds(kinds)
    check_table(kinds, table)
    return _least_from(kinds, nodes_of(kinds, table))


def _least_from(kinds, nodes):
    """The least table of the tree of the last one of some nodes."""
    # Nodes of equal trees are first told by one number.
    numbers = {}
    own = []
    for kind, kids in nodes:
        key = (kind,) + tuple([own[kid] for kid in kids])
        own.append(numbers.setdefault(key, len(numbers)))
    parts = list(numbers)
    places = {}
    rows = []
    waiting = [own[-1]]
    while waiting:
        part = waiting[-1]
        unknown = [kid for kid in parts[part][1:] if kid not in places]
        if part in places:
            waiting.pop()
        elif unknown:
            waiting.append(unknown[0])
        else:
            places[part] = len(rows)
            rows.append((kinds[parts[part][0]][0],) + tuple([places[kid] for kid in parts[part][1:]]))
    return ("table", tuple(rows))


def table_state(trees, table):
    """The state of the tree of a table."""
    check_set(trees)
    check_table(trees[1], table)
    return states_in(trees, nodes_of(trees[1], table))[-1]
