"""Spaces of rows of whole numbers."""

from samewriting.errors import BadRow, BadRows, BadWidth
from samewriting.linear import across_of, combined, common_factor, head_of, product_of, stairs_of
from samewriting.values import is_between, is_rising, is_row, is_whole, is_word


def _is_numbers(thing, width):
    return is_row(thing, width) and all([is_whole(number) for number in thing])


def _check_width(width):
    if not is_between(width, 1, 60):
        raise BadWidth("not from 1 to 60")


def _check_rows(width, rows):
    _check_width(width)
    if not isinstance(rows, tuple) or len(rows) > 60:
        raise BadRows("no tuple of at most 60 rows")
    if not all([_is_numbers(row, width) for row in rows]):
        raise BadRows("no rows of this width")


def _check_row(width, rows, row):
    _check_rows(width, rows)
    if not _is_numbers(row, width):
        raise BadRow("no row of this width")


def _told(rows):
    return tuple([tuple(row) for row in rows])


def space_of(width, rows):
    """The stairs of the space of rows."""
    _check_rows(width, rows)
    return _told(stairs_of(width, rows))


def is_stairs(width, thing):
    """Whether any value is stairs."""
    _check_width(width)
    if not isinstance(thing, tuple) or not all([_is_numbers(row, width) for row in thing]):
        return False
    heads = [head_of(row) for row in thing]
    if None in heads or not is_rising(heads):
        return False
    for head, row in zip(heads, thing):
        if row[head] < 0 or common_factor(row) != 1:
            return False
        # No row but its own has a number there.
        if len([other for other in thing if other[head]]) > 1:
            return False
    return True


def combination(width, rows, row):
    """("in", k, factors) if the row is in the space of rows, otherwise ("out", w)."""
    _check_row(width, rows, row)
    told = combined(rows, row)
    if told is not None:
        return ("in", told[0], tuple(told[1]))
    apart = [known for known in across_of(width, rows) if product_of(known, row)]
    return ("out", tuple(apart[0]))


def is_combination(width, rows, row, thing):
    """Whether any value is what combination may tell."""
    _check_row(width, rows, row)
    if is_row(thing, 3) and is_word(thing[0], "in"):
        return _is_sum(rows, row, thing[1], thing[2])
    if is_row(thing, 2) and is_word(thing[0], "out") and _is_numbers(thing[1], width):
        return product_of(thing[1], row) != 0 and not any([product_of(thing[1], known) for known in rows])
    return False


def _is_sum(rows, row, many, factors):
    if not is_whole(many) or many < 1 or not _is_numbers(factors, len(rows)):
        return False
    for place, number in enumerate(row):
        if many * number != product_of(factors, [known[place] for known in rows]):
            return False
    return True


def across(width, rows):
    """The stairs of all rows whose product with each of rows is 0."""
    _check_rows(width, rows)
    return _told(across_of(width, rows))
