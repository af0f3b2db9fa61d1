"""Even number readers: random ones, other ones that are the same, and their form trees by slow reckoning."""

from fractions import Fraction

from helpers import every_tree, numbers_of, plain_state, plain_told, plain_worths, poly, random_numbers, random_set


def random_even(choose, kinds, states=2, rooms=2, let=0.7):
    """An even number reader with small coefficients."""
    trees = random_set(choose, kinds, states)
    many = choose.randint(1, rooms)
    ranks = dict(kinds)

    def some(rank):
        terms = []
        for _ in range(choose.randint(0, 3)):
            factors = tuple((child, choose.randrange(many)) for child in range(rank) if choose.random() < 0.6)
            terms.append((choose.choice((-2, -1, 1, 2)),) + factors)
        return poly(*terms)

    def end():
        return poly(*[(choose.choice((-1, 1, 2)),) + factors for factors in [()] + [((0, room),) for room in range(many)] if choose.random() < 0.5])
    return numbers_of(trees, many, lambda name, below: tuple(some(ranks[name]) for _ in range(many)), lambda state: end() if choose.random() < let else None)


def with_sums(choose, numbers):
    """The same reader, with its first room told less its last one, and a room more that nobody asks for, or 1 more of it."""
    rooms = numbers[2]
    extra = choose.choice(((), (0,), (1,))) if rooms < 8 else ()
    last = rooms - 1

    def seen(polynomial):
        """With new rooms: old room 0 is the new one and, if it is another one, the last."""
        terms = []
        for powers, number in polynomial:
            factors = [()]
            for (child, room), many in powers:
                assert many == 1
                ways = [(child, 0), (child, last)] if room == 0 and last > 0 else [(child, room)]
                factors = [factor + (way,) for factor in factors for way in ways]
            terms.extend((number,) + factor for factor in factors)
        return poly(*terms)

    def less(one, other):
        told = dict(one)
        for powers, number in other:
            told[powers] = told.get(powers, 0) - number
        return tuple(sorted((powers, number) for powers, number in told.items() if number))
    rows = []
    for row in numbers[3]:
        held = []
        for worths in row:
            own = [seen(polynomial) for polynomial in worths]
            if last > 0:
                own[0] = less(own[0], own[last])
            held.append(tuple(own) + tuple(poly((worth,)) for worth in extra))
        rows.append(tuple(held))
    ends = tuple(None if end is None else seen(end) for end in numbers[4])
    return ("numbers", numbers[1], rooms + len(extra), tuple(rows), ends)


def plain_rank(rows):
    rows = [[Fraction(number) for number in row] for row in rows]
    rank = 0
    for place in range(len(rows[0]) if rows else 0):
        for spot in range(rank, len(rows)):
            if rows[spot][place]:
                rows[rank], rows[spot] = rows[spot], rows[rank]
                for other in range(rank + 1, len(rows)):
                    often = rows[other][place] / rows[rank][place]
                    rows[other] = [one - often * two for one, two in zip(rows[other], rows[rank])]
                rank += 1
                break
    return rank


def paths_to(trees, tree, state):
    found = [()] if plain_state(trees, tree) == state else []
    for step, child in enumerate(tree[1:]):
        found.extend((step,) + path for path in paths_to(trees, child, state))
    return found


def put_at(tree, path, other):
    if not path:
        return other
    return tree[:path[0] + 1] + (put_at(tree[path[0] + 1], path[1:], other),) + tree[path[0] + 2:]


def plain_forms(numbers, most, around):
    """The form trees of at most so many nodes of each state, told by all surroundings of at most so many nodes."""
    trees = numbers[1]
    small = every_tree(trees[1], most)
    whole = [tree for tree in every_tree(trees[1], around) if numbers[4][plain_state(trees, tree)] is not None]
    told = []
    for state in range(trees[2]):
        own = [tree for tree in small if plain_state(trees, tree) == state]
        places = [(tree, path) for tree in whole for path in paths_to(trees, tree, state)]
        found, rows = [], []
        for tree in own:
            row = [1] + [plain_told(numbers, put_at(one, path, tree)) for one, path in places]
            if plain_rank(rows + [row]) > len(rows):
                found.append(tree)
                rows.append(row)
        told.append(tuple(found))
    return tuple(told)


def plain_vector(numbers, tree):
    return (1,) + plain_worths(numbers, tree)


__all__ = ["plain_forms", "plain_rank", "plain_vector", "put_at", "random_even", "random_numbers", "with_sums"]
