"""Ideals of polynomials with any whole numbers as coefficients, those among them that the program's primes divide."""

import contextlib
from unittest import mock

from helpers import Case, chance, poly, power
from ideals import dense, is_sum, plain_basis, random_poly
from samewriting import foreseeing
from samewriting.basemaking import BASIS_PRIMES, prime_for
from samewriting.bases import basis_of, is_shown, ring_of, shown
from samewriting.belonging import belonging, is_belonging, power_in, staying
from samewriting.dividing import is_basis
from samewriting.errors import TooMany
from samewriting.polynomials import plus, scaled, times

X, Y, Z, W = (0, 0), (0, 1), (0, 2), (3, 15)
ONE = poly((1,))

ALL_PRIMES = 1
for one_prime in BASIS_PRIMES:
    ALL_PRIMES *= one_prime
NUMBERS = BASIS_PRIMES + (ALL_PRIMES, -ALL_PRIMES * 6, ALL_PRIMES * ALL_PRIMES, 2 ** 89 - 1, 10 ** 40, -7, 2)


def at_most(many):
    """Where a basis of more polynomials is too long."""
    stack = contextlib.ExitStack()
    for module in ("foreseeing", "basemaking", "bases", "wholemaking"):
        stack.enter_context(mock.patch("samewriting." + module + ".MOST_IN_BASIS", many))
    return stack


def told(function, *passed):
    try:
        return function(*passed)
    except TooMany as error:
        return error.most


class AnyCoefficients(Case):
    def test_primes(self):
        given = [{0: BASIS_PRIMES[0], 5: 1}]
        self.assertEqual(prime_for(given), BASIS_PRIMES[1])
        self.assertEqual(prime_for([{0: 6}]), BASIS_PRIMES[0])
        self.assertIs(prime_for(given + [{0: ALL_PRIMES}]), None)

    def test_one_variable(self):
        for number in NUMBERS:
            some = (poly((number, X), (1,)),)
            wanted = scaled(some[0], 1 if number > 0 else -1)
            self.assertEqual(basis_of(some), (wanted,))
            self.assertIs(is_shown(some, shown(some)), True)
            self.assertEqual(belonging(some, ONE), ("out", (wanted,)))
            self.assertEqual(belonging(some, scaled(some[0], 5))[0], "in")
            self.assertEqual(staying((X,), some), ((),))
            self.assertEqual(power_in(some, poly((number,)))[0], "never")
            self.assertEqual(basis_of((poly((number, X), (1,)), poly((number, X), (2,)))), (ONE,))
            # x is a number divided by this one: two such are the same, or not.
            both = (poly((number, X), (1,)), poly((2 * number, X), (2,)))
            self.assertEqual(basis_of(both), (wanted,))

    def test_sums_that_a_prime_divides(self):
        # No coefficient is a multiple of a prime, but what comes of them is.
        for number in NUMBERS:
            some = (poly((1, X), (1, Y)), poly((1, X), (number + 1, Y), (1,)))
            sign = 1 if number > 0 else -1
            self.assertEqual(basis_of(some), (poly((sign * number, Y), (sign,)), poly((sign * number, X), (-sign,))))
            self.assertEqual(staying((X, Y), some), ((),))
            self.assertEqual(belonging(some, ONE)[0], "out")
            self.assertEqual(basis_of((poly((1, X, Y), (1,)), poly((1, X, Y), (number + 1,)))), (ONE,))
            self.assertEqual(basis_of((poly((1, X, Y), (1, X)), poly((1, X, Y), (number + 1, X)))), (poly((1, X)),))
            self.assertEqual(staying((X, Y), (poly((1, X, Y), (1, X, X), (1, X, X)), poly((1, X, Y), (2 + number, X, X)), power(Y, 3))),
                             staying((X, Y), (poly((1, X, Y)), power(X, 2), power(Y, 3))))

    def test_numbers_among_them(self):
        hard = (poly((1,) + (X,) * 30 + (Y,), (-1,) + (Z,) * 31), poly((1,) + (X,) * 31, (-1, Y) + (Z,) * 29))
        variables = [(0, room) for room in range(7)]
        choose = chance(1)
        quadrics = tuple(dense(choose, variables, 2, False, 3) for _ in range(7))
        for number in NUMBERS:
            for some in (hard + (poly((number,)),), (poly((number,)),) + hard, quadrics + (poly((number,)),)):
                self.assertEqual(self.within(5, basis_of, some), (ONE,))
                self.assertIs(is_shown(some, shown(some)), True)
                self.assertEqual(belonging(some, poly((3, X), (1, W)))[0], "in")
        self.too_many(40, basis_of, hard)
        self.too_many(60, basis_of, quadrics)

    def test_too_many_as_with_small_numbers(self):
        # The degrees and terms of the basis do not hang on the number.
        for number in NUMBERS:
            for most in (30, 41):
                some = (poly((number, X, W), (-1, Y, Z)), poly((1,) + (X,) * (most // 2) + (Z,) * (most % 2)))
                small = (poly((3, X, W), (-1, Y, Z)), some[1])
                answer, wanted = told(basis_of, some), told(basis_of, small)
                self.assertEqual(answer if isinstance(answer, int) else [len(one) for one in answer],
                                 wanted if isinstance(wanted, int) else [len(one) for one in wanted])
                self.assertEqual(isinstance(answer, int), most == 41)

    def test_staying(self):
        for number in NUMBERS:
            some = (poly((number, X, X), (1, X, Y)), power(Y, 2))
            self.assertEqual(staying((X, Y), some), (((X, 1), (Y, 1)), ((X, 1),), ((Y, 1),), ()))
            self.assertIs(staying((X, Y), (poly((number, X, Y), (1, Y, Y)), power(Y, 2))), None)
            self.assertIs(staying((X, Y), (poly((number, X), (1, Y)),)), None)
            self.assertEqual(len(staying((X, Y), (poly((number,) + (X,) * 10, (1,) + (X,) * 9), power(Y, 6)))), 60)
            self.too_many(60, staying, (X, Y), (poly((number,) + (X,) * 10, (1,) + (X,) * 9), power(Y, 7)))

    def test_powers(self):
        for number in NUMBERS:
            some = (poly((1,) + (X,) * 31, (-number, Y)),)
            answer = power_in(some, power(X, 15))
            self.assertEqual(answer[0], "never")
            self.assertTrue(is_basis(answer[1]))
            self.assertEqual(len(answer[1]), len(power_in((poly((1,) + (X,) * 31, (-3, Y)),), power(X, 15))[1]))
            # y is nilpotent there, so x is.
            some = (poly((1, X, X, X), (-number, Y)), power(Y, 2))
            word, many, factor, factors = power_in(some, power(X, 1))
            self.assertEqual((word, many), ("power", 6))
            self.assertTrue(is_sum(some, power(X, 6), factor, factors))
            self.too_many(40, power_in, (poly((1,) + (X,) * 21, (-number, Y)), power(Y, 2)), power(X, 1))
            self.assertEqual(power_in((power(X, 1),), poly((1, X), (number, Y)))[0], "never")
            self.assertEqual(power_in((poly((number, X), (1,)),), poly((1, X)))[0], "never")
            self.assertEqual(power_in((poly((number, X), (1,)), poly((number, X), (3,))), poly((1, X)))[:2], ("power", 1))

    def test_random_ones(self):
        choose = chance(2)
        for _ in range(120):
            def coefficient():
                return choose.choice(NUMBERS + (1, 1, -1, 3))
            some = tuple(tuple((powers, coefficient()) for powers, _ in random_poly(choose, (X, Y, W), 2, choose.randint(1, 3)))
                         for _ in range(choose.randint(1, 3)))
            basis = basis_of(some)
            self.assertEqual(basis, plain_basis(some))
            self.assertIs(is_shown(some, shown(some)), True)
            polynomial = random_poly(choose, (X, Y), 2, 2)
            self.assertIs(is_belonging(some, polynomial, belonging(some, polynomial)), True)
            inner = times(some[0], polynomial)
            self.assertEqual(belonging(some, inner)[0], "in")
            if basis != (ONE,):
                self.assertEqual(belonging(some, plus(inner, ONE))[0], "out")


class Foreseen(Case):
    """What is foreseen must be so: it is told without it as well."""

    def of(self, some):
        ring = ring_of(some)
        return foreseeing.foreseen(ring, [ring.packed(polynomial) for polynomial in some])

    def same(self, some):
        """What is foreseen, if the basis is the same without it."""
        wanted = told(basis_of, some)
        with mock.patch("samewriting.bases.foreseen", lambda ring, given: foreseeing.NOTHING):
            self.assertEqual(told(basis_of, some), wanted)
        return self.of(some)

    def test_one_is_of_it(self):
        choose = chance(3)
        for variables, degree in (((X,), 3), ((X, Y), 2), ((X, Y), 4), ((X, Y, Z), 2)):
            some = tuple(dense(choose, variables, degree) for _ in range(len(variables) + 1))
            self.assertEqual(self.same(some), foreseeing.ALL)
            # A common zero in no number at hand, but far away: nothing is seen, and 1 is told nevertheless.
            self.assertEqual(self.of(tuple(times(one, poly((1, X), (1, (0, 5)))) for one in some)), foreseeing.NOTHING)
        self.assertEqual(self.same((poly((1, X, Y), (-1,)), power(X, 1))), foreseeing.NOTHING)
        self.assertEqual(self.same((poly((5,)), power(X, 1))), foreseeing.ALL)

    def test_one_is_not_of_it(self):
        choose = chance(4)
        for number in NUMBERS:
            # All are 0 at one point, a number below the line: remainders may not see it.
            inner = [poly((number, X), (1,)), poly((number, Y), (-2,))]
            some = tuple(plus(times(inner[0], dense(choose, (X, Y), 2)), times(inner[1], dense(choose, (X, Y), 2))) for _ in range(4))
            self.assertEqual(self.same(some), foreseeing.NOTHING)
            self.assertNotEqual(basis_of(some), (ONE,))

    def test_many(self):
        choose = chance(5)
        four = [(0, room) for room in range(4)]
        some = tuple(dense(choose, four, 2, False, 2) for _ in range(4))
        with at_most(10):
            self.assertEqual(self.same(some), foreseeing.MANY)
            # With forms that hang together nothing is seen.
            self.assertEqual(self.same(some[:3] + (plus(some[0], power(X, 1)),)), foreseeing.NOTHING)
        # Fewer polynomials than variables.
        few = tuple(dense(choose, (X, Y, Z), 8) for _ in range(2))
        self.within(20, self.too_many, 60, basis_of, few)
        self.assertEqual(self.same(some[:1]), foreseeing.NOTHING)

    def test_soon(self):
        choose = chance(6)
        for many, degree, variables in ((4, 6, 3), (3, 12, 2)):
            some = tuple(dense(choose, [(0, room) for room in range(variables)], degree) for _ in range(many))
            self.assertEqual(self.within(20, basis_of, some), (ONE,))
            self.assertEqual(self.within(20, staying, tuple((0, room) for room in range(variables)), some), ())

    def test_small_primes(self):
        choose = chance(7)
        seen = set()
        for prime in (3, 5, 7):
            with mock.patch("samewriting.basemaking.BASIS_PRIMES", (prime,)), at_most(4):
                for _ in range(60):
                    variables = (X, Y, Z)[:choose.randint(1, 3)]
                    some = tuple(dense(choose, variables, choose.randint(1, 3) if len(variables) < 3 else choose.choice((1, 2, 2, 2)), choose.random() < 0.2, 4) for _ in range(choose.randint(1, 3)))
                    wanted = plain_basis(some)
                    self.assertEqual(told(basis_of, some), 4 if len(wanted) > 4 else wanted)
                    seen.add(self.of(some))
        self.assertEqual(seen, {foreseeing.ALL, foreseeing.MANY, foreseeing.NOTHING})
