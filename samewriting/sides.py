"""The pairs of states of two number readers."""

from samewriting.pairing import check_sides, sides_of


def met(one, other):
    """The pairs of states that some tree has, as a walk meets them."""
    check_sides(one, other)
    return tuple(sides_of(one, other).pairs)
