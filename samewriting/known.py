"""Shorts of words about which much is known."""

from samewriting.errors import BadNumber
from samewriting.values import is_between

_MOST = 1000


def _check_many(many):
    if not is_between(many, 0, _MOST):
        raise BadNumber("not from 0 to 1,000")


def parity_short(many):
    """The short with a at the indexes that are a sum of an even number of powers of 2, b at the others."""
    _check_many(many)
    rows = [("say", "a"), ("say", "b")]
    # Each word is followed by itself with a and b exchanged; so are those with a and b exchanged.
    for _ in range(many):
        one = len(rows) - 2
        rows.extend([("then", one, one + 1), ("then", one + 1, one)])
    return ("short", tuple(rows[:-1]))


def golden_short(many):
    """The short of a, ab, and of each further word the two ahead of it, the last one first."""
    _check_many(many)
    rows = [("say", "a"), ("say", "ab")]
    for place in range(2, many + 1):
        rows.append(("then", place - 1, place - 2))
    return ("short", tuple(rows[:many + 1]))
