import itertools
from unittest import mock

from helpers import ODD, PRIME, Case, at_path, chance, exchanged, parts_of, poly, power, wrong_kinds, wrong_lengths
from ideals import chain, dense, is_sum, lead, less, plain_basis, random_poly, rest_of
from samewriting.basemaking import BASIS_PRIMES
from samewriting.bases import basis_of
from samewriting.belonging import belonging, is_belonging, power_in, staying
from samewriting.dividing import divided, is_basis
from samewriting.errors import BadPolynomial, BadPolynomials, BadVariables, TooMany
from samewriting.polynomials import is_polynomial, plus, scaled, times

X, Y, Z, W = (0, 0), (0, 1), (1, 0), (3, 15)
P = poly((1, X, Y), (-1,))
Q = poly((1, X, X))
ONE = poly((1,))


def is_of(some, polynomial):
    """Whether a polynomial is of the ideal, by slow reckoning."""
    return not rest_of(dict(polynomial), [dict(other) for other in plain_basis(some)])


class Belonging(Case):
    def check(self, some, polynomial):
        told = belonging(some, polynomial)
        if told[0] == "in":
            _, many, factors = told
            self.assertGreaterEqual(many, 1)
            self.assertTrue(len(factors) == len(some) and all(is_polynomial(factor) for factor in factors))
            self.assertTrue(is_sum(some, polynomial, many, factors))
        else:
            self.assertEqual(told[0], "out")
            self.assertTrue(is_basis(told[1]))
            self.assertTrue(all(divided(other, told[1])[2] == () for other in some))
            self.assertNotEqual(divided(polynomial, told[1])[2], ())
        self.assertIs(is_belonging(some, polynomial, told), True)
        return told

    def test_by_hand(self):
        self.assertEqual(self.check((P, Q), ONE)[0], "in")
        self.assertIs(is_belonging((P, Q), ONE, ("in", 1, (poly((-1,), (-1, X, Y)), poly((1, Y, Y))))), True)
        self.assertEqual(self.check((), ONE)[0], "out")
        self.assertEqual(self.check((), ())[0], "in")
        self.assertEqual(self.check(((),), ())[0], "in")
        self.assertEqual(self.check((Q,), power(X, 3))[0], "in")
        self.assertEqual(self.check((Q,), power(X, 1)), ("out", (Q,)))
        self.assertEqual(self.check((poly((2, X)),), poly((1, X)))[0], "in")

    def test_against_plain_reckoning(self):
        choose = chance(1)
        words = set()
        for _ in range(150):
            variables = choose.sample((X, Y, Z, W), choose.randint(1, 3))
            some = tuple(random_poly(choose, variables, 2, choose.randint(1, 3)) for _ in range(choose.randint(0, 3)))
            polynomial = random_poly(choose, variables, 2, 2)
            if choose.random() < 0.5:
                polynomial = ()
                for other in some:
                    polynomial = plus(polynomial, times(other, random_poly(choose, variables, 2, 2)))
            told = self.check(some, polynomial)
            self.assertEqual(told[0] == "in", is_of(some, polynomial))
            words.add(told[0])
        self.assertEqual(words, {"in", "out"})

    def test_none_is_too_many_for_small_ones(self):
        # At most 3 polynomials of degree at most 2 in at most 2 variables, and one of degree at most 4 in at most 3.
        choose = chance(2)
        others = [((1, 0), (1, 1), (2, 2)), (X, Y, Z), (X, (1, 3), W), (Y,)]
        for number in range(60):
            most = choose.choice((1, 5, 10 ** 12))
            some = tuple(dense(choose, (X, Y), choose.randint(1, 2), False, most) for _ in range(choose.randint(1, 3)))
            polynomial = dense(choose, others[number % 4], 4, False, most)
            told = self.check(some, polynomial)
            if basis_of(some) == (ONE,):
                self.assertEqual(told[0], "in")
        for some in ((poly((1, X, X), (-1, Y)), poly((1, X, Y), (-1,)), poly((1, Y, Y), (2, X))), (poly((1, X, Y), (-1,)), Q, ()),
                     (poly((1, X, Y), (1, X)), poly((1, Y, Y), (-2,)), poly((1, X, X), (1, X, Y), (-3,)))):
            self.check(some, dense(choose, others[0], 4))

    def test_errors_in_order(self):
        self.raises(BadPolynomials, belonging, (P,) * 9, None)
        self.raises(BadPolynomials, is_belonging, [P], None, None)
        self.raises(BadPolynomials, power_in, (None,), None)
        for thing in ODD:
            if thing != ():
                self.raises(BadPolynomial, belonging, (P,), thing)
                self.raises(BadPolynomial, is_belonging, (P,), thing, None)
                self.raises(BadPolynomial, power_in, (poly((1, W)),), thing)
        high = chain(20, 0, (W,))
        self.raises(BadPolynomial, belonging, high, None)
        self.too_many(40, belonging, high, ONE)
        self.too_many(40, belonging, high, high[0])
        many = chain(18) + chain(18, 1) + chain(19, 2)
        self.too_many(60, belonging, many, ONE)
        self.too_many(60, power_in, many, ONE)
        # The judge reckons with what it is told alone.
        self.assertIs(is_belonging(many, many[0], ("in", 1, (ONE,) + ((),) * 5)), True)

    def test_papers(self):
        some = (poly((1, X, X), (-1, Y)), poly((1, X, Y), (-2,)))
        inner = times(some[0], poly((3, X), (1,)))
        for polynomial in (inner, power(X, 1)):
            told = belonging(some, polynomial)
            for thing in ODD + tuple(wrong_kinds(told)):
                self.assertIs(is_belonging(some, polynomial, thing), False, thing)
            for path, thing in wrong_lengths(told):
                # Twice the same is a basis, and so may be what is left of one.
                if told[0] == "in" or path != (1,):
                    self.assertIs(is_belonging(some, polynomial, thing), False, path)
        told = belonging(some, inner)
        for path in parts_of(told):
            number = at_path(told, path)
            if isinstance(number, int):
                for other in (number + 1, -number, number * 2, 0):
                    thing = exchanged(told, path, other)
                    right = thing[1] >= 1 and all(is_polynomial(factor) for factor in thing[2]) and is_sum(some, inner, thing[1], thing[2])
                    self.assertIs(is_belonging(some, inner, thing), right)
        # Just one of both words has papers.
        self.assertIs(is_belonging(some, inner, ("out", basis_of(some))), False)
        self.assertIs(is_belonging(some, power(X, 1), ("out", basis_of(some))), True)
        self.assertIs(is_belonging(some, power(X, 1), ("out", ())), False)
        self.assertIs(is_belonging((), power(X, 1), ("out", ())), True)
        self.assertIs(is_belonging(some, power(X, 1), ("out", basis_of(some[:1]))), False)
        # Any basis will do, also of a greater ideal, and one that is not the least; no other tuple.
        self.assertIs(is_belonging(some, ONE, ("out", (poly((1, X, X, X), (-2,)), poly((1, X, X), (-1, Y))))), False)
        self.assertIs(is_belonging((Q,), power(X, 1), ("out", (Q, poly((1, Y))))), True)
        self.assertIs(is_belonging((Q,), power(X, 1), ("out", (Q, Q, scaled(Q, -3)))), True)
        self.assertIs(is_belonging((Q,), power(X, 1), ("out", (Q, ()))), False)
        self.assertIs(is_belonging((P,), power(X, 1), ("out", (P, Q))), False)
        self.assertIs(is_belonging((Q,), power(X, 1), ("out", (poly((1, Y)),))), False)
        self.assertIs(is_belonging((Q,), power(Y, 1), ("out", (poly((1, X)),))), True)
        self.assertIs(is_belonging((Q,), Q, ("in", PRIME, (poly((PRIME,)),))), True)
        self.assertIs(is_belonging((Q,), Q, ("in", PRIME + 1, (ONE,))), False)
        self.assertIs(is_belonging((Q,), Q, ("in", 0, ((),))), False)
        self.assertIs(is_belonging((Q,), scaled(Q, -1), ("in", -1, (ONE,))), False)

    def test_by_name(self):
        self.assertEqual(belonging(some=(Q,), polynomial=Q), ("in", 1, (ONE,)))
        self.assertIs(is_belonging(some=(Q,), polynomial=Q, thing=("in", 1, (ONE,))), True)


class PowerIn(Case):
    def check(self, some, polynomial):
        told = power_in(some, polynomial)
        if told[0] == "power":
            _, many, factor, factors = told
            worth = ONE
            for number in range(many):
                self.assertFalse(number and is_of(some, worth))
                worth = times(worth, polynomial)
            self.assertTrue(factor >= 1 and is_sum(some, worth, factor, factors))
        else:
            self.assertEqual(told[0], "never")
            self.assertTrue(is_basis(told[1]))
            extra = plus(ONE, scaled(times(poly((1, W)), polynomial), -1))
            self.assertTrue(all(divided(other, told[1])[2] == () for other in some + (extra,)))
            self.assertNotEqual(divided(ONE, told[1])[2], ())
        return told

    def test_by_hand(self):
        self.assertEqual(self.check((power(X, 4),), power(X, 1)), ("power", 4, 1, (ONE,)))
        self.assertEqual(self.check((poly((1, X, X, X, Y)),), poly((2, X, Y)))[:2], ("power", 3))
        self.assertEqual(self.check((poly((1, X, X, Y)),), power(X, 1))[0], "never")
        self.assertEqual(self.check((), ())[:2], ("power", 1))
        self.assertEqual(self.check((), poly((3,)))[0], "never")
        self.assertEqual(self.check((P, Q), poly((3,)))[:2], ("power", 1))
        self.assertEqual(self.check((Q, power(Y, 2)), poly((1, X), (1, Y)))[:2], ("power", 3))
        self.assertEqual(self.check((Q, poly((1, Y, Y), (-1, X))), poly((1, X), (1, Y)))[:2], ("power", 4))

    def test_one_term_each(self):
        # None is too many for one polynomial of one term and one of one term, of degrees of at most 4.
        powers = [some for many in range(5) for some in itertools.combinations_with_replacement((X, Y, Z), many)]
        choose = chance(3)
        for _ in range(120):
            one, other = [poly((choose.choice((-2, 1, 3)),) + choose.choice(powers)) for _ in range(2)]
            told = self.check((one,), other)
            own, wanted = dict(other[0][0]), one[0][0]
            if all(variable in own for variable, _ in wanted):
                self.assertEqual(told[1], max([1] + [-(-many // own[variable]) for variable, many in wanted]))
            else:
                self.assertEqual(told[0], "never")

    def test_random_ones(self):
        choose = chance(4)
        words = set()
        for _ in range(80):
            base = random_poly(choose, (X, Y), 1, 2, 3)
            some = tuple(random_poly(choose, (X, Y), 2, 2, 3) for _ in range(choose.randint(0, 2)))
            if choose.random() < 0.5:
                some += (times(times(base, base), random_poly(choose, (X, Y), 1, choose.randint(1, 2), 3)),)
            try:
                told = self.check(some, base)
            except TooMany as error:
                self.fail(error.most)
            words.add(told[:2] if told[0] == "power" else "never")
        self.assertLessEqual({"never", ("power", 1), ("power", 2)}, words)

    def test_bounds(self):
        self.assertEqual(self.check((power(X, 40),), power(X, 1))[:2], ("power", 40))
        self.assertEqual(self.check((power(X, 39),), power(X, 3))[:2], ("power", 13))
        self.too_many(40, power_in, (power(X, 40),), power(X, 3))
        self.too_many(40, power_in, (power(X, 40),), poly((1, X, X), (1, X)))
        # 1 less (3, 15) times it may have the degree 40, not 41.
        self.assertEqual(self.check((), power(Y, 39))[0], "never")
        self.too_many(40, power_in, (), power(Y, 40))
        self.assertEqual(self.check((power(Y, 40),), power(Y, 40))[:2], ("power", 1))
        # (x + y + z + w) ** 29 is of this ideal, and has 4495 terms.
        variables = (X, Y, Z, (2, 0))
        total = poly(*[(1, variable) for variable in variables])
        self.within(10, self.too_many, 400, power_in, tuple(power(variable, 8) for variable in variables), total)
        self.assertEqual(self.within(10, power_in, tuple(power(variable, 3) for variable in variables), total)[:2], ("power", 9))
        # Of six variables it is the power 43: that there is one is seen by remainders.
        six = [(0, room) for room in range(6)]
        self.within(20, self.too_many, 40, power_in, tuple(power(variable, 8) for variable in six), poly(*[(1, variable) for variable in six]))
        # Far from any power: it is not gone through.
        choose = chance(5)
        self.assertEqual(self.within(10, power_in, (dense(choose, (X, Y), 1),), dense(choose, (X, Y, Z, (2, 0)), 2))[0], "never")

    def test_primes(self):
        for prime in BASIS_PRIMES:
            self.assertEqual(self.check((poly((prime, X, X), (1, Y)), power(Y, 2)), poly((1, X)))[:2], ("power", 4))
            self.assertEqual(self.check((poly((1, X, X)),), poly((1, X), (prime, Y)))[0], "never")
        with mock.patch("samewriting.basemaking.BASIS_PRIMES", (3,)):
            self.assertEqual(self.check((poly((1, X, X), (-1, Y)), power(Y, 2)), poly((1, X), (3,)))[0], "never")
            self.assertEqual(self.check((poly((3, X, X), (1, Y)), power(Y, 2)), poly((1, X)))[:2], ("power", 4))

    def test_variables(self):
        self.raises(BadVariables, power_in, (poly((1, W)),), ONE)
        self.raises(BadVariables, power_in, (ONE,), poly((1, X), (1, W)))
        self.raises(BadVariables, power_in, chain(20, 0, (W,)), ONE)
        self.assertEqual(self.check((poly((1, (3, 14))),), poly((1, (3, 14))))[0], "power")
        self.assertEqual(power_in(some=(Q,), polynomial=Q)[0], "power")


class Staying(Case):
    def plain(self, variables, some, most):
        """The powers of at most a degree that no first term divides, the greatest first."""
        leads = [lead(dict(polynomial)) for polynomial in plain_basis(some)]
        found = []
        for degree in range(most, -1, -1):
            for written in sorted(itertools.combinations_with_replacement(sorted(variables), degree)):
                powers = tuple(sorted((variable, written.count(variable)) for variable in set(written)))
                if all(less(powers, other) is None for other in leads):
                    found.append(powers)
        return tuple(found)

    def test_by_hand(self):
        self.assertEqual(staying((X,), (power(X, 3),)), (((X, 2),), ((X, 1),), ()))
        self.assertEqual(staying((X, Y), (Q, power(Y, 2))), (((X, 1), (Y, 1)), ((X, 1),), ((Y, 1),), ()))
        self.assertEqual(staying((X, Y), (P, Q)), ())
        self.assertEqual(staying((X, Y), (ONE,)), ())
        self.assertIs(staying((X, Y), (Q,)), None)
        self.assertIs(staying((X,), ()), None)
        self.assertIs(staying((X, W), (P[:0], power(X, 1))), None)
        self.assertEqual(staying((X, Y), (poly((1, X), (-1, Y)), power(Y, 2))), (((Y, 1),), ()))

    def test_against_plain_reckoning(self):
        choose = chance(6)
        met = set()
        for _ in range(100):
            variables = tuple(sorted(choose.sample((X, Y, Z), choose.randint(1, 3))))
            some = tuple(random_poly(choose, variables, 2, choose.randint(1, 3)) for _ in range(choose.randint(1, 4)))
            told = staying(variables, some)
            wanted = self.plain(variables, some, 9)
            if told is None:
                # In each degree something stays.
                self.assertTrue(any(sum(many for _, many in powers) == 9 for powers in wanted))
            else:
                self.assertEqual(told, wanted)
            met.add(told is None)
        self.assertEqual(met, {True, False})

    def test_bounds(self):
        self.assertEqual(len(staying((X, Y), (power(X, 10), power(Y, 6)))), 60)
        self.too_many(60, staying, (X, Y), (power(X, 8), power(Y, 8)))
        # 1, x .. and y ..: 60 and 61 powers.
        self.assertEqual(len(staying((X, Y), (poly((1, X, Y)), power(X, 30), power(Y, 31)))), 60)
        self.too_many(60, staying, (X, Y), (poly((1, X, Y)), power(X, 31), power(Y, 31)))
        self.within(10, self.too_many, 60, staying, tuple((0, room) for room in range(8)), tuple(power((0, room), 40) for room in range(8)))
        # 64 powers stay of six such polynomials, whose basis has more than 60 as well.
        choose = chance(8)
        six = tuple((0, room) for room in range(6))
        for only in (True, False):
            self.within(10, self.too_many, 60, staying, six, tuple(dense(choose, six, 2, only, 2) for _ in range(6)))
        # Endless many are told, however many there are of each degree.
        self.assertIs(self.within(10, staying, tuple((0, room) for room in range(8)), tuple(power((0, room), 40) for room in range(7))), None)

    def test_bases_beyond_bounds(self):
        # No other one: neither of degrees nor of terms of the basis.
        high = chain(20, 0, (W,))
        self.too_many(40, basis_of, high)
        variables = tuple((0, room) for room in range(4)) + (W,)
        self.assertIs(staying(variables, high), None)
        choose = chance(7)
        long = tuple(dense(choose, (X, Y), 20) for _ in range(2))
        self.too_many(60, staying, (X, Y), long)
        many = chain(18) + chain(18, 1) + chain(19, 2)
        variables = tuple((child, room) for child in range(2) for room in range(4))
        self.raises(BadPolynomials, staying, variables, many)

    def test_errors(self):
        for variables in ((), (X, X), (Y, X), [X], None, X, ((0, 16),), ((4, 0),), ((True, 0),), tuple((0, room) for room in range(9))):
            self.raises(BadVariables, staying, variables, None)
        self.raises(BadPolynomials, staying, (X,), (P,))
        self.raises(BadPolynomials, staying, (X, Y), (P, Q, power(Z, 1)))
        self.raises(BadPolynomials, staying, (X, Y), (P,) * 9)
        self.raises(BadPolynomials, staying, (X, Y), [P])
        self.assertEqual(staying(variables=tuple((0, room) for room in range(8)), some=(ONE,)), ())
