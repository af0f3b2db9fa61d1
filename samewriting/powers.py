"""All powers of some variables, and the polynomials in them that are 0 at points."""

from samewriting.linear import narrowed, unit_rows
from samewriting.putting import PRIME


def powers_up_to(variables, degree):
    """All powers of at most this degree in ascending variables, the greatest first."""
    written = [[()]]
    for _ in range(degree):
        # Each begins with a variable that is not behind the next one, so none comes twice.
        written.append([(variable,) + rest for variable in variables for rest in written[-1]
                        if not rest or variable <= rest[0]])
    return [_powers_written(row) for rows in reversed(written) for row in rows]


def _powers_written(row):
    return tuple([(variable, row.count(variable)) for variable in sorted(set(row))])


def equations_through(variables, degree, points):
    """The polynomials, as stairs, of all those of at most this degree that are 0 at the points."""
    powers = powers_up_to(variables, degree)
    places = {variable: place for place, variable in enumerate(variables)}
    picked = _telling_points(powers, places, points)
    if len(picked) == len(powers):
        return ()
    rows = unit_rows(len(powers))
    # The other points bring nothing new, unless the prime divides it: that is seen here.
    for point in picked + list(points):
        fewer = narrowed(rows, _row_at(powers, places, point))
        if fewer is not None:
            rows = fewer
    return tuple([polynomial_of(powers, row) for row in rows])


def _telling_points(powers, places, points):
    """Points that surely bring something new each, found by remainders: so long numbers are kept out."""
    left = unit_rows(len(powers))
    picked = []
    for point in points:
        row = _row_at(powers, places, [number % PRIME for number in point])
        fewer = narrowed(left, [number % PRIME for number in row], PRIME)
        if fewer is not None:
            picked.append(point)
            left = fewer
    return picked


def _row_at(powers, places, point):
    """The numbers that powers are at a point, each variable's number standing at its place."""
    told = []
    for some in powers:
        number = 1
        for variable, power in some:
            number *= point[places[variable]] ** (int(power) % 41)
        told.append(number)
    return told


def polynomial_of(powers, row):
    """The polynomial with a row of coefficients for powers."""
    return tuple(sorted([(some, number) for some, number in zip(powers, row) if number]))
