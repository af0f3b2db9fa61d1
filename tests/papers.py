"""Papers multiplied out by hand, with dicts from powers to coefficients: what the tests hold the program's answers to."""

import itertools


def times(one, other):
    told = {}
    for powers, number in one.items():
        for further, worth in other.items():
            counts = dict(powers)
            for variable, many in further:
                counts[variable] = counts.get(variable, 0) + many
            both = tuple(sorted(counts.items()))
            told[both] = told.get(both, 0) + number * worth
    return {powers: number for powers, number in told.items() if number}


def plus(one, other, often=1):
    told = dict(one)
    for powers, number in other.items():
        told[powers] = told.get(powers, 0) + often * number
    return {powers: number for powers, number in told.items() if number}


def put(polynomial, worths):
    told = {}
    for powers, number in polynomial:
        product = {(): number}
        for (_, room), many in powers:
            for _ in range(many):
                product = times(product, worths[room])
        told = plus(told, product)
    return told


def moved(polynomial, rooms):
    return {tuple(((child, room + rooms), many) for (child, room), many in powers): number for powers, number in polynomial}


def for_child(polynomial, child):
    return {tuple(((child, room), many) for (_, room), many in powers): number for powers, number in polynomial}


def place_of(many, states):
    place = 0
    for state in states:
        place = place * many + state
    return place


def rows_of(one, other, pairs):
    """(kind, pairs of the children, pair of the goal, polynomials put in) for all rows."""
    for kind, (_, rank) in enumerate(one[1][1]):
        for states in itertools.product(range(len(pairs)), repeat=rank):
            first = place_of(one[1][2], [pairs[state][0] for state in states])
            second = place_of(other[1][2], [pairs[state][1] for state in states])
            goal = pairs.index((one[1][3][kind][first], other[1][3][kind][second]))
            worths = [dict(polynomial) for polynomial in one[3][kind][first]]
            worths += [moved(polynomial, one[2]) for polynomial in other[3][kind][second]]
            yield kind, states, goal, worths


def holds(one_sum, terms, states, equations):
    many, parts = one_sum
    if many < 1:
        return False
    total = {}
    names = [part[:2] for part in parts]
    if names != sorted(set(names)):
        return False
    for child, place, factor in parts:
        if not 0 <= child < len(states) or not 0 <= place < len(equations[states[child]]) or not factor:
            return False
        total = plus(total, times(dict(factor), for_child(equations[states[child]][place], child)))
    return {powers: number * many for powers, number in terms.items()} == total


def multiplies_out(one, other, pairs, paper):
    """Whether a paper, right in its form, does multiply out."""
    _, equations, rows, ends = paper
    count = {}
    for kind, states, goal, worths in rows_of(one, other, pairs):
        sums = rows[kind][count.get(kind, 0)]
        count[kind] = count.get(kind, 0) + 1
        for equation, one_sum in zip(equations[goal], sums):
            if not holds(one_sum, put(equation, worths), states, equations):
                return False
    for pair, (first, second) in enumerate(pairs):
        if one[4][first] is not None:
            terms = plus(dict(one[4][first]), moved(other[4][second], one[2]), -1)
            if not holds(ends[pair], terms, (pair,), equations):
                return False
    return True
