"""Polynomials that are 0 at points."""

from math import comb

from samewriting.errors import BadDegree, BadPoints, BadVariables, TooMany
from samewriting.polynomials import is_variable
from samewriting.powers import equations_through, powers_up_to
from samewriting.values import is_between, is_rising, is_row, is_whole

MOST_POWERS = 60


def check_variables(variables):
    """Raise BadVariables unless this is an ascending tuple of 1 to 8 variables."""
    if not isinstance(variables, tuple) or not 1 <= len(variables) <= 8:
        raise BadVariables("not from 1 to 8 variables")
    if not all([is_variable(variable) for variable in variables]) or not is_rising(variables):
        raise BadVariables("no ascending variables")


def _check_degree(degree):
    if not is_between(degree, 0, 8):
        raise BadDegree("not from 0 to 8")


def check_powers(many, degree):
    """Raise TooMany if so many variables have more than 60 powers of at most this degree."""
    if comb(many + degree, degree) > MOST_POWERS:
        raise TooMany(MOST_POWERS)


def powers_to(variables, degree):
    """All powers of at most this degree in the variables, the greatest first."""
    check_variables(variables)
    _check_degree(degree)
    check_powers(len(variables), degree)
    return tuple(powers_up_to(variables, degree))


def equations_at(variables, points, degree):
    """The polynomials, as stairs, of all those of at most this degree that are 0 at all points."""
    check_variables(variables)
    _check_points(variables, points)
    _check_degree(degree)
    check_powers(len(variables), degree)
    return equations_through(variables, degree, points)


def _check_points(variables, points):
    if not isinstance(points, tuple) or len(points) > 60:
        raise BadPoints("no tuple of at most 60 points")
    for point in points:
        if not is_row(point, len(variables)) or not all([is_whole(number) for number in point]):
            raise BadPoints("no numbers for the variables")
