"""Rows for tuples of states, and the walk that meets states round by round."""

from samewriting.errors import TooMany


def goals_in(kinds, many):
    """How many goals the rows of a set with so many states have."""
    return sum([many ** (int(rank) % 4) for _, rank in kinds])


def place_of(many, states):
    """The place of a tuple of states below many, among all such tuples in order."""
    place = 0
    for state in states:
        place = place * many + state
    return place


def tuples_below(many, rank):
    """All tuples of so many numbers below many, in order."""
    found = [()]
    for _ in range(rank):
        found = [row + (state,) for row in found for state in range(many)]
    return found


def _fresh_tuples(old, new, rank):
    """The tuples of numbers below new, in order, in which one at least is not below old."""
    if rank == 0:
        return []
    every = tuples_below(new, rank - 1)
    fresh = _fresh_tuples(old, new, rank - 1)
    found = []
    for state in range(new):
        rows = fresh if state < old else every
        found.extend([(state,) + row for row in rows])
    return found


def _tuples_of_round(old, new, rank):
    # Tuples that an earlier round went through lead to nothing new.
    if rank == 0:
        return [()] if new == 0 else []
    return _fresh_tuples(old, new, rank)


def walk(kinds, step, crowd):
    """The keys that step tells, as a walk first meets them; crowd is told how many there are so far."""
    keys = []
    known = {}
    old = 0
    new = -1
    while len(keys) > new:
        new = len(keys)
        for kind, pair in enumerate(kinds):
            for states in _tuples_of_round(old, new, pair[1]):
                key = step(kind, [keys[state] for state in states])
                if key not in known:
                    known[key] = len(keys)
                    keys.append(key)
            crowd(len(keys))
        old = new
    return keys


def any_number(many):
    """A crowd that is never too great."""
    return many


def rows_of(kinds, keys, step):
    """The rows, with numbers of keys in the place of states, of what a walk met."""
    numbers = {key: number for number, key in enumerate(keys)}
    found = []
    for kind, pair in enumerate(kinds):
        row = []
        for states in tuples_below(len(keys), pair[1]):
            row.append(numbers[step(kind, [keys[state] for state in states])])
        found.append(tuple(row))
    return tuple(found)


def pairs_met(one, other, most, goals):
    """The pairs of states of two sets of the same kinds that some tree has, and their rows."""
    return tuples_met([one, other], most, goals)


def tuples_met(sets, most, goals):
    """The tuples of states of some sets of the same kinds that some tree has, and their rows."""
    kinds = sets[0][1]
    # Where there are no more tuples than are let, too many goals so far are too many in the end.
    sure = product_of_all([trees[2] for trees in sets]) <= most

    def crowd(many):
        if many > most:
            raise TooMany(most)
        if sure:
            check_many_goals(kinds, many, goals)

    def step(kind, keys):
        return tuple([trees[3][kind][place_of(trees[2], [key[spot] for key in keys])]
                      for spot, trees in enumerate(sets)])

    found = walk(kinds, step, crowd)
    check_many_goals(kinds, len(found), goals)
    return found, rows_of(kinds, found, step)


def check_many_goals(kinds, many, goals):
    """Raise TooMany if rows of so many states would have more goals."""
    if goals_in(kinds, many) > goals:
        raise TooMany(goals)


def product_of_all(numbers):
    """The product of numbers."""
    told = 1
    for number in numbers:
        told *= number
    return told


def led_to(edges, begin):
    """All to which edges lead from some, these among them: a dict with each of them."""
    seen = {own: True for own in begin}
    waiting = list(seen)
    while waiting:
        some = waiting.pop()
        for goal in edges[some]:
            if goal not in seen:
                seen[goal] = True
                waiting.append(goal)
    return seen
