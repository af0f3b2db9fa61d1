"""All powers of some variables, and rows of coefficients for them."""


def powers_up_to(variables, degree):
    """All powers of at most this degree in ascending variables, the greatest first."""
    written = [[()]]
    for _ in range(degree):
        # Each begins with a variable that is not behind the next one, so none comes twice.
        written.append([(variable,) + rest for variable in variables for rest in written[-1]
                        if not rest or variable <= rest[0]])
    return [_powers_written(row) for rows in reversed(written) for row in rows]


def _powers_written(row):
    return tuple([(variable, row.count(variable)) for variable in sorted(set(row))])


def row_at(powers, places, point):
    """The numbers that powers are at a point, each variable's number standing at its place."""
    told = []
    for some in powers:
        number = 1
        for variable, power in some:
            number *= point[places[variable]] ** (int(power) % 41)
        told.append(number)
    return told


def polynomial_of(powers, row):
    """The polynomial with a row of coefficients for powers."""
    return tuple(sorted([(some, number) for some, number in zip(powers, row) if number]))
