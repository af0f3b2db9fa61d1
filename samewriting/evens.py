"""Even number readers: all that they tell is told by finitely many trees of each state."""

from math import gcd

from samewriting.errors import NotEven
from samewriting.linear import combined
from samewriting.numbers import check_numbers, valuer_of, worths_within
from samewriting.pairing import check_sides, sides_of
from samewriting.papers import PaperMaker
from samewriting.powers import polynomial_of, powers_up_to
from samewriting.spans import Spans
from samewriting.trees import check_tree


def is_even(numbers):
    """Whether each term has of each child at most one room, with the power 1, and all ends are of degree 1."""
    check_numbers(numbers)
    return is_even_of(numbers)


def is_even_of(numbers):
    """As is_even, of what surely is a number reader."""
    for row in numbers[3]:
        for polynomials in row:
            if not all([_is_apart(polynomial) for polynomial in polynomials]):
                return False
    return all([end is None or _is_straight(end) for end in numbers[4]])


def _is_apart(polynomial):
    """Whether each term has of each child at most one room, with the power 1."""
    for powers, _ in polynomial:
        children = [variable[0] for variable, _ in powers]
        if len(set(children)) < len(children) or any([power > 1 for _, power in powers]):
            return False
    return True


def _is_straight(polynomial):
    """Whether its degree is at most 1."""
    return all([sum([power for _, power in powers]) <= 1 for powers, _ in polynomial])


def _check_even(numbers):
    if not is_even_of(numbers):
        raise NotEven("not even")


def spans_of(numbers):
    """The basis trees of a number reader; NotEven, TooMany."""
    _check_even(numbers)
    trees = numbers[1]
    spans = Spans(trees[1], trees[2], trees[3], [valuer_of(numbers)], numbers[2])
    spans.grow()
    return spans


def basis(numbers):
    """The basis trees of each state, in order."""
    check_numbers(numbers)
    spans = spans_of(numbers)
    return tuple([tuple(spans.told(row)) for row in spans.lists])


def shares(numbers, tree):
    """How often each basis tree of its state is in a tree, as pairs (n, d)."""
    check_numbers(numbers)
    check_tree(numbers[1][1], tree)
    spans = spans_of(numbers)
    state, found = worths_within(numbers, tree)
    vector = list(found) + [1]
    many, factors = combined([spans.vectors[known] for known in spans.lists[state]], vector)
    return tuple([lowest(factor, many) for factor in factors])


def lowest(number, below):
    """The pair (n, d) of the fraction without common factors."""
    common = gcd(number, below)
    return number // common, below // common


def ties(numbers):
    """The polynomials of the degree 1 at most, as stairs, that are 0 at all trees of each state."""
    check_numbers(numbers)
    return _ties_told(spans_of(numbers), numbers[2])


def _ties_told(spans, rooms):
    powers = powers_up_to([(0, room) for room in range(rooms)], 1)
    return tuple([tuple([polynomial_of(powers, row) for row in rows]) for rows in spans.ties])


def same_even(one, other):
    """("same", paper), or ("parted", tree) with the least tree that parts two even number readers."""
    check_sides(one, other)
    _check_even(one)
    _check_even(other)
    return same_even_of(one, other)


def same_even_of(one, other):
    """As same_even, of two even number readers of the same kinds."""
    sides = sides_of(one, other)
    valuers = sides.both_valuers()
    spans = Spans(sides.kinds, len(sides.pairs), sides.goals, valuers, sides.rooms)
    spans.grow()
    apart = [tree for tree in range(len(spans.states)) if _are_apart(spans, valuers, tree)]
    if apart:
        return ("parted", spans.told(spans.least_of(apart)[:1])[0])
    return ("same", PaperMaker(sides, _ties_told(spans, sides.rooms)).paper())


def _are_apart(spans, valuers, tree):
    """Whether a basis tree of a pair parts the readers."""
    told = [valuer.end_at(spans.states[tree], spans.vectors[tree]) for valuer in valuers]
    return told[0] != told[1]
