"""Sets made of sets, and least sets."""

from samewriting.errors import OtherKinds, TooMany
from samewriting.groves import Grove
from samewriting.lots import lots_of
from samewriting.sets import check_set, met_states
from samewriting.trees import check_kinds, check_tree, listed
from samewriting.walks import any_number, goals_in, pairs_met, place_of, rows_of, tuples_below, walk


def contrary(trees):
    """The least set of the trees that are not in it."""
    check_set(trees)
    takes = [state for state in range(trees[2]) if state not in trees[4]]
    return least_of(trees[:4] + (tuple(takes),))


def both(one, other):
    """The least set of the trees in both."""
    return _joined(one, other, _in_both)


def either(one, other):
    """The least set of the trees in one of both at least."""
    return _joined(one, other, _in_either)


def _in_both(first, second):
    return first and second


def _in_either(first, second):
    return first or second


def _check_sets(one, other):
    check_set(one)
    check_set(other)
    if one[1] != other[1]:
        raise OtherKinds("not the same kinds")


def _joined(one, other, rule):
    _check_sets(one, other)
    pairs, rows = pairs_met(one, other, 60, 4000)
    takes = [number for number, (first, second) in enumerate(pairs)
             if rule(first in one[4], second in other[4])]
    return least_of(("set", one[1], len(pairs), rows, tuple(takes)))


def alone(kinds, tree):
    """The least set that has just this tree in it."""
    check_kinds(kinds)
    check_tree(kinds, tree)
    parts, top = _parts_of(kinds, tree)
    many = len(parts) + 1
    if many > 60:
        raise TooMany(60)
    if goals_in(kinds, many) > 4000:
        raise TooMany(4000)
    rows = []
    for kind, pair in enumerate(kinds):
        row = [parts.get((kind, states), len(parts)) for states in tuples_below(many, pair[1])]
        rows.append(tuple(row))
    return least_of(("set", kinds, many, tuple(rows), (top,)))


def _parts_of(kinds, tree):
    """The unlike parts of a tree, numbered, by their kinds and the numbers of their children; the number of all."""
    parts = {}
    numbers = []
    for kind, kids in listed(kinds, tree):
        key = (kind, tuple([numbers[kid] for kid in kids]))
        numbers.append(parts.setdefault(key, len(parts)))
    return parts, numbers[-1]


def inside(one, other):
    """None if each tree in one is in other, otherwise the least tree that is in one and not in other."""
    _check_sets(one, other)
    pairs, rows = pairs_met(one, other, 60, 4000)
    grove = Grove(one[1], len(pairs), rows, 1)
    grove.grow()
    found = [tree for number, (first, second) in enumerate(pairs)
             if first in one[4] and second not in other[4] for tree in grove.lists[number]]
    if not found:
        return None
    return grove.told(grove.least_of(found)[:1])[0]


def least(trees):
    """The set of the same trees with fewest states, numbered as a walk meets them."""
    check_set(trees)
    return least_of(trees)


def least_of(trees):
    """As least, of what surely is a set but for its number of states."""
    kinds = trees[1]
    met = met_states(trees)
    lot = lots_of(trees, met, {state: state in trees[4] for state in met}, None)
    ahead = {}
    for state in met:
        ahead.setdefault(lot[state], state)

    def step(kind, lots):
        place = place_of(trees[2], [ahead[key] for key in lots])
        return lot[trees[3][kind][place]]

    keys = walk(kinds, step, any_number)
    takes = [number for number, own in enumerate(keys) if ahead[own] in trees[4]]
    return ("set", kinds, len(keys), rows_of(kinds, keys, step), tuple(takes))
