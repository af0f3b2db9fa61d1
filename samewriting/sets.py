"""Sets of trees: told by a state for each tree."""

from samewriting.errors import BadNumber, BadSet
from samewriting.groves import Grove
from samewriting.trees import check_tree, is_kinds, listed
from samewriting.values import is_between, is_rising_below, is_row, is_word
from samewriting.walks import any_number, goals_in, led_to, place_of, tuples_below, walk


def is_set(thing):
    """Whether any value is a set of trees."""
    if not is_row(thing, 5) or not is_word(thing[0], "set"):
        return False
    kinds, many, rows, takes = thing[1:]
    if not is_kinds(kinds) or not is_between(many, 1, 60) or goals_in(kinds, many) > 4000:
        return False
    if not is_row(rows, len(kinds)) or not is_rising_below(takes, many):
        return False
    return all([_is_goals(row, many, pair[1]) for row, pair in zip(rows, kinds)])


def _is_goals(row, many, rank):
    if not is_row(row, many ** (int(rank) % 4)):
        return False
    return all([is_between(goal, 0, many - 1) for goal in row])


def check_set(trees):
    """Raise BadSet unless this is a set."""
    if not is_set(trees):
        raise BadSet("no set of trees")


def state_of(trees, tree):
    """The state of a tree."""
    check_set(trees)
    check_tree(trees[1], tree)
    return states_in(trees, listed(trees[1], tree))[-1]


def states_in(trees, nodes):
    """The states of the nodes of a tree, told as in listed."""
    states = []
    for kind, kids in nodes:
        place = place_of(trees[2], [states[kid] for kid in kids])
        states.append(trees[3][kind][place])
    return states


def is_in(trees, tree):
    """Whether a tree is in the set."""
    return state_of(trees, tree) in trees[4]


def _grown(trees, most):
    grove = Grove(trees[1], trees[2], trees[3], most)
    grove.grow()
    return grove


def least_trees(trees):
    """The least tree of each state, None for a state that no tree has."""
    check_set(trees)
    grove = _grown(trees, 1)
    told = grove.told([tree for row in grove.lists for tree in row])
    by_state = dict(zip(_states_with(grove), told))
    return tuple([by_state.get(state) for state in range(trees[2])])


def _states_with(grove):
    return [state for state in range(grove.many) if grove.lists[state]]


def least_in(trees):
    """The least tree in the set, None if there is none."""
    check_set(trees)
    found = _first_in(trees, 1)
    return found[0] if found else None


def in_order(trees, many):
    """The first trees in the set, in order."""
    check_set(trees)
    if not is_between(many, 1, 12):
        raise BadNumber("not from 1 to 12")
    return tuple(_first_in(trees, many))


def _first_in(trees, many):
    grove = _grown(trees, many)
    found = [tree for state in trees[4] for tree in grove.lists[state]]
    return grove.told(grove.least_of(found)[:many])


def number_in(trees, many):
    """How many trees of this size are in the set."""
    check_set(trees)
    if not is_between(many, 1, 60):
        raise BadNumber("not from 1 to 60")
    # counts[state][n] tells how many trees of n nodes have the state.
    counts = [[0] for _ in range(trees[2])]
    # pairs[place][n] tells how many pairs of trees of two such states have n nodes together.
    pairs = [[0] for _ in tuples_below(trees[2], 2)] if _has_rank(trees, 3) else []
    for nodes in range(1, many + 1):
        fresh = _counts_of_size(trees, counts, pairs, nodes)
        for state, number in enumerate(fresh):
            counts[state].append(number)
        for place, row in enumerate(pairs):
            first, second = divmod(place, trees[2])
            row.append(_together(counts[first], counts[second], nodes))
    return sum([counts[state][many] for state in trees[4]])


def _has_rank(trees, rank):
    return rank in [pair[1] for pair in trees[1]]


def _together(first, second, nodes):
    """How often a number of nodes of the first and one of the second are so many together."""
    return sum([x * y for x, y in zip(first[1:nodes], second[nodes - 1:0:-1])])


def _counts_of_size(trees, counts, pairs, nodes):
    found = [0] * trees[2]
    below = nodes - 1
    for pair, row in zip(trees[1], trees[3]):
        if pair[1] == 0:
            found[row[0]] += 1 if below == 0 else 0
        elif pair[1] == 1:
            for state, goal in enumerate(row):
                found[goal] += counts[state][below]
        else:
            ahead = counts if pair[1] == 2 else pairs
            # Rows without trees are many and count nothing.
            for place, goal in enumerate(row):
                first, last = divmod(place, trees[2])
                found[goal] += _together(ahead[first], counts[last], below)
    return found


def is_finite(trees):
    """Whether finitely many trees are in the set."""
    check_set(trees)
    edges = _edges_met(trees)
    # A state that stands below itself, in trees of the set, can do so again and again.
    for state in led_to(edges, trees[4]):
        if state in led_to(edges, edges[state]):
            return False
    return True


def met_states(trees):
    """The states that some tree has, as a walk meets them."""
    def step(kind, states):
        return trees[3][kind][place_of(trees[2], states)]

    return walk(trees[1], step, any_number)


def _edges_met(trees):
    """For each state the states, met by trees, of children of trees of this state; none if it is not met."""
    met = met_states(trees)
    edges = {state: [] for state in range(trees[2])}
    for pair, row in zip(trees[1], trees[3]):
        for spots in tuples_below(len(met), pair[1]):
            states = [met[spot] for spot in spots]
            edges[row[place_of(trees[2], states)]].extend(states)
    return {state: sorted(set(edges[state])) for state in edges}
