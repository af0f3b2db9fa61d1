"""Rows of whole numbers: stairs, and what is 0 with all of them. Nothing here is rounded."""

from math import gcd


def product_of(one, other):
    """The sum of the products of numbers at the same place."""
    return sum([x * y for x, y in zip(one, other)])


def common_factor(row):
    """The greatest number that divides a whole row, 0 for a row of zeros."""
    told = 0
    for number in row:
        told = gcd(told, number)
        if told == 1:
            return 1
    return told


def head_of(row):
    """The first place of a number that is not 0; None if there is none."""
    for place, number in enumerate(row):
        if number:
            return place
    return None


def _pointed(row, head):
    """The row without its common factor, its number at the head above 0."""
    common = common_factor(row)
    if row[head] < 0:
        common = -common
    return [number // common for number in row]


def _eliminated(rows, places):
    """(heads, table, pivot): of the places, in turn, those that become heads of rows of the table.

    The first rows of the table have the pivot at their heads, one each, and 0 at all other heads;
    the further rows have 0 at all places. By dividing with the pivot ahead, which always comes out
    whole (E. Bareiss), numbers stay as short as determinants of the rows.
    """
    table = [list(row) for row in rows]
    heads = []
    pivot = 1
    for place in places:
        done = len(heads)
        spots = [spot for spot in range(done, len(table)) if table[spot][place]]
        if spots:
            table[done], table[spots[0]] = table[spots[0]], table[done]
            table = _cleared_by(table, done, place, pivot)
            pivot = table[done][place]
            heads.append(place)
    return heads, table, pivot


def _cleared_by(table, done, place, before):
    step = table[done]
    pivot = step[place]
    told = []
    for spot, row in enumerate(table):
        often = row[place]
        if spot == done:
            told.append(row)
        elif often:
            told.append([(pivot * x - often * y) // before for x, y in zip(row, step)])
        else:
            told.append([pivot * x // before for x in row])
    return told


def stairs_of(width, rows):
    """The stairs of the space of rows."""
    heads, table, _ = _eliminated(rows, list(range(width)))
    return [_pointed(row, head) for head, row in zip(heads, table)]


def across_of(width, rows):
    """The stairs of all rows whose product with each of the rows is 0."""
    # Heads are sought from the last place on: so what is free comes first, as stairs want it.
    heads, table, pivot = _eliminated(rows, list(range(width - 1, -1, -1)))
    found = []
    for free in range(width):
        if free not in heads:
            told = [0] * width
            told[free] = pivot
            for head, row in zip(heads, table):
                told[head] = -row[free]
            found.append(_pointed(told, free))
    return found


def combined(rows, row):
    """(k, factors) with k times the row the sum of the rows times their factors; None if there are none."""
    many = len(rows)
    columns = [[known[place] for known in rows] + [number] for place, number in enumerate(row)]
    heads, table, pivot = _eliminated(columns, list(range(many)))
    if any([column[many] for column in table[len(heads):]]):
        return None
    told = [0] * many + [pivot]
    for head, column in zip(heads, table):
        told[head] = column[many]
    told = _pointed(told, many)
    return told[many], told[:many]


def unit_rows(width):
    """The rows with one 1 each: the stairs of all rows."""
    return [[int(place == spot) for place in range(width)] for spot in range(width)]


def narrowed(equations, row, prime=0):
    """The stairs of what is 0 with the row too, of all that equations, stairs, tell; None if all of it is so.

    If a prime is told, remainders by it are meant throughout, and heads may be any numbers.
    """
    told = [product_of(equation, row) for equation in equations]
    if prime:
        told = [number % prime for number in told]
    spots = [spot for spot, number in enumerate(told) if number]
    if not spots:
        return None
    # The last one goes: what it brings to the others stands behind their heads.
    last = spots[-1]
    found = []
    for spot, equation in enumerate(equations):
        if not told[spot]:
            found.append(equation)
        elif spot != last:
            fresh = [told[last] * x - told[spot] * y for x, y in zip(equation, equations[last])]
            found.append([number % prime for number in fresh] if prime else _pointed(fresh, head_of(fresh)))
    return found
