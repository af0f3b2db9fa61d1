from math import comb

from helpers import ODD, PRIME, Case, chance, poly, power
from samewriting.errors import BadDegree, BadPoints, BadVariables
from samewriting.polynomials import is_polynomial, value_at
from samewriting.spaces import across
from samewriting.vanishing import equations_at, powers_to

X, Y, Z = (0, 0), (0, 1), (1, 0)
BAD_VARIABLES = [value for value in ODD] + [
    [X, Y], X, (Y, X), (X, X), ((4, 0),), ((0, 16),), ((0, -1),), ((0, True),), ((0,),), ([0, 0],), ((0, 0, 0),), (X, None),
    tuple((0, room) for room in range(9))]
EIGHT = tuple((0, room) for room in range(8))


class Powers(Case):
    def test_by_hand(self):
        self.assertEqual(powers_to((X,), 0), ((),))
        self.assertEqual(powers_to((X,), 2), (((X, 2),), ((X, 1),), ()))
        self.assertEqual(powers_to((X, Y), 2), (((X, 2),), ((X, 1), (Y, 1)), ((Y, 2),), ((X, 1),), ((Y, 1),), ()))
        self.assertEqual(powers_to((X, Y, Z), 3)[:5],
                         (((X, 3),), ((X, 2), (Y, 1)), ((X, 2), (Z, 1)), ((X, 1), (Y, 2)), ((X, 1), (Y, 1), (Z, 1))))
        self.assertEqual(powers_to(EIGHT, 1), tuple(((variable, 1),) for variable in EIGHT) + ((),))

    def test_errors(self):
        for variables in BAD_VARIABLES:
            self.raises(BadVariables, powers_to, variables, None)
            self.raises(BadVariables, equations_at, variables, None, None)
        for degree in (-1, 9, True, None, "1", 1.0):
            self.raises(BadDegree, powers_to, (X, Y), degree)
            self.raises(BadDegree, equations_at, (X, Y), (), degree)

    def test_bounds(self):
        for many in range(1, 9):
            for degree in range(9):
                number = comb(many + degree, degree)
                if number <= 60:
                    self.assertEqual(len(powers_to(EIGHT[:many], degree)), number)
                else:
                    self.too_many(60, powers_to, EIGHT[:many], degree)
                    self.too_many(60, equations_at, EIGHT[:many], (), degree)
        self.assertEqual(len(powers_to(EIGHT[:2], 8)), 45)
        self.assertEqual(len(powers_to(EIGHT[:5], 3)), 56)


class Equations(Case):
    def test_by_hand(self):
        points = ((0, 0), (1, 1), (2, 4))
        self.assertEqual(equations_at((X, Y), points, 1), ())
        self.assertEqual(equations_at((X, Y), points, 2),
                         (poly((1, X, X), (-1, Y)), poly((1, X, Y), (2, X), (-3, Y)), poly((1, Y, Y), (6, X), (-7, Y))))
        self.assertEqual(equations_at((X,), (), 2), (power(X, 2), power(X, 1), poly((1,))))
        self.assertEqual(equations_at((X,), ((3,), (3,)), 1), (poly((1, X), (-3,)),))
        self.assertEqual(equations_at((X,), ((3,),), 0), ())

    def test_numbers_that_a_prime_divides(self):
        self.assertEqual(equations_at((X,), ((PRIME,),), 1), (poly((1, X), (-PRIME,)),))
        self.assertEqual(equations_at((X,), ((0,), (PRIME,)), 1), ())
        self.assertEqual(equations_at((X, Y), ((0, 0), (PRIME, 2 * PRIME)), 1), (poly((2, X), (-1, Y)),))

    def test_bad_points(self):
        for points in [value for value in ODD if value != ()] + [
                [(0, 0)], ((0,),), ((0, 0, 0),), ([0, 0],), ((0, True),), ((0, 1.0),), ((0, None),), (0, 0), ((0, 0),) * 61]:
            self.raises(BadPoints, equations_at, (X, Y), points, None)
        self.assertEqual(equations_at((X, Y), ((0, 0),) * 60, 1), (power(X, 1), power(Y, 1)))

    def test_chance(self):
        choose = chance(51)
        for _ in range(150):
            variables = tuple(sorted(choose.sample([X, Y, Z, (3, 15)], choose.randint(1, 3))))
            degree = choose.randint(0, 3)
            points = tuple(tuple(choose.randint(-3, 3) for _ in variables) for _ in range(choose.randint(0, 8)))
            told = equations_at(variables, points, degree)
            powers = powers_to(variables, degree)
            rows = tuple(tuple(value_at(((some, 1),), tuple(zip(variables, point))) for some in powers) for point in points)
            stairs = tuple(tuple(dict(polynomial).get(some, 0) for some in powers) for polynomial in told)
            self.assertEqual(stairs, across(len(powers), rows))
            for polynomial in told:
                self.assertTrue(is_polynomial(polynomial))
                for point in points:
                    self.assertEqual(value_at(polynomial, tuple(zip(variables, point))), 0)

    def test_sixty_points_within_seconds(self):
        choose = chance(52)
        points = tuple(tuple(choose.randint(-99, 99) for _ in range(2)) for _ in range(60))
        self.assertEqual(self.within(20, equations_at, (X, Y), points, 8), ())
        points = tuple((number, number ** 2) for number in range(60))
        told = self.within(20, equations_at, (X, Y), points, 8)
        self.assertEqual(told[0], poly((1,) + (X,) * 8, (-1,) + (Y,) * 4))
        points = tuple(tuple(choose.randint(-10 ** 20, 10 ** 20) for _ in range(5)) for _ in range(20))
        self.assertEqual(len(self.within(30, equations_at, EIGHT[:5], points, 3)), 36)
