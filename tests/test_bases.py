from unittest import mock

from helpers import ODD, PRIME, Case, at_path, chance, exchanged, parts_of, poly, power, wrong_kinds, wrong_lengths
from ideals import chain, dense, is_sum, plain_basis, random_poly
from samewriting.basemaking import BASIS_PRIMES
from samewriting.bases import basis_of, is_shown, shown
from samewriting.dividing import divided, is_basis
from samewriting.errors import BadPolynomials
from samewriting.polynomials import is_polynomial, scaled, times

X, Y, Z, W = (0, 0), (0, 1), (1, 0), (3, 15)
P = poly((1, X, Y), (-1,))
Q = poly((1, X, X))
ONE = poly((1,))


def product_of_primes():
    told = 1
    for prime in BASIS_PRIMES:
        told *= prime
    return told


class BasisOf(Case):
    def test_by_hand(self):
        self.assertEqual(basis_of((P, Q)), (ONE,))
        self.assertEqual(basis_of(()), ())
        self.assertEqual(basis_of(((), ())), ())
        self.assertEqual(basis_of((poly((-6,)), ())), (ONE,))
        self.assertEqual(basis_of((poly((-6, X), (4, Y)),)), (poly((3, X), (-2, Y)),))
        # The greatest powers ascend, and no first term divides any powers of another one.
        self.assertEqual(basis_of((poly((1, X, X), (1, Y)), poly((1, Y), (1, Z)))), (poly((1, Y), (1, Z)), poly((1, X, X), (-1, Z))))
        self.assertEqual(basis_of((poly((1, X), (1, Y)), poly((1, X), (-1, Y)))), (poly((1, Y)), poly((1, X))))

    def test_against_plain_reckoning(self):
        choose = chance(1)
        sizes = set()
        for _ in range(150):
            variables = choose.sample((X, Y, Z, W), choose.randint(1, 3))
            some = tuple(random_poly(choose, variables, choose.randint(1, 3), choose.randint(1, 3)) for _ in range(choose.randint(1, 3)))
            told = basis_of(some)
            self.assertEqual(told, plain_basis(some))
            self.assertTrue(is_basis(told))
            for polynomial in some:
                self.assertEqual(divided(polynomial, told)[2], ())
            sizes.add(len(told))
        self.assertGreaterEqual(len(sizes), 3)

    def test_same_ideals_have_equal_bases(self):
        choose = chance(2)
        for _ in range(60):
            some = [random_poly(choose, (X, Y, Z), 2, 3) for _ in range(2)]
            told = basis_of(tuple(some))
            choose.shuffle(some)
            some[0] = scaled(some[0], choose.choice((-2, 3, 7)))
            further = some + [times(some[0], random_poly(choose, (X, W), 2, 2)), ()]
            choose.shuffle(further)
            self.assertEqual(basis_of(tuple(further)), told)
            self.assertEqual(basis_of(told[:8]) if len(told) <= 8 else told, told)

    def test_bounds_of_given_ones(self):
        self.assertEqual(basis_of((P,) * 8), (P,))
        self.raises(BadPolynomials, basis_of, (P,) * 9)
        self.raises(BadPolynomials, shown, ((),) * 9)
        self.raises(BadPolynomials, is_shown, (P,) * 9, ())
        for thing in ODD:
            if thing not in ((), ((),)):
                self.raises(BadPolynomials, basis_of, thing)
                self.raises(BadPolynomials, shown, thing)
                self.raises(BadPolynomials, is_shown, thing, None)
        for thing in wrong_kinds((P, Q)):
            self.raises(BadPolynomials, basis_of, thing)

    def test_sixty_polynomials(self):
        # Squares of sums in six variables have very many leading powers.
        choose = chance(3)
        variables = [(0, room) for room in range(6)]
        self.within(10, self.too_many, 60, basis_of, tuple(dense(choose, variables, 2, True, 2) for _ in range(6)))
        self.within(20, self.too_many, 60, basis_of, tuple(dense(choose, variables, 2, False, 2) for _ in range(6)))
        self.within(20, self.too_many, 60, shown, tuple(dense(choose, variables, 2, False, 2) for _ in range(6)))
        self.within(20, self.too_many, 60, is_shown, tuple(dense(choose, variables, 2, False, 2) for _ in range(6)), None)

    def test_just_sixty(self):
        u, v = (0, 2), (0, 3)
        self.assertEqual(basis_of(chain(2)), (poly((1, X, u), (-1, Y, v)), poly((1, X, X)), poly((1, X, Y, v)), poly((1, Y, Y, v, v))))
        sixty = chain(18) + chain(18, 1) + chain(18, 2)
        self.assertEqual(len(basis_of(sixty)), 60)
        self.assertEqual(len(shown(sixty)), 60)
        self.assertIs(is_shown(sixty, shown(sixty)), True)
        more = chain(18) + chain(18, 1) + chain(19, 2)
        for passed in ((basis_of, more), (shown, more), (is_shown, more, None)):
            self.too_many(60, *passed)
        # Not all of one degree: that there are too many is seen in the end alone.
        self.too_many(60, basis_of, sixty + (poly((1, W), (1,)),))
        self.assertEqual(len(basis_of(chain(18) + chain(18, 1) + chain(17, 2) + (poly((1, W), (1,)),))), 60)
        # Too many polynomials count ahead of too high degrees.
        self.too_many(60, basis_of, chain(21) + chain(21, 1) + chain(21, 2))

    def test_degrees(self):
        self.assertEqual(basis_of(chain(20))[-1], poly((1,) + (Y, (0, 3)) * 20))
        high = chain(20, 0, (W,))
        for passed in ((basis_of, high), (shown, high), (is_shown, high, None)):
            self.too_many(40, *passed)
        # High degrees on the way do not count.
        self.assertEqual(basis_of((P, power(X, 40))), (ONE,))
        self.assertEqual(basis_of(high + (power(W, 1),))[-1], poly((1, X, (0, 2)), (-1, Y, (0, 3))))

    def test_terms(self):
        # The long one has 400 terms, one of them s; the others tell s by one variable, or by two.
        s = (0, 9)
        long = tuple(sorted(dense(chance(4), ((1, 0), (1, 1)), 27)[-399:] + poly((1, s))))
        self.assertEqual([len(polynomial) for polynomial in basis_of((long,))], [400])
        self.assertEqual([len(polynomial) for polynomial in basis_of((long, poly((1, s), (1, W))))], [2, 400])
        pair = (long, poly((1, s), (1, W), (1, (3, 14))))
        for passed in ((basis_of, pair), (shown, pair), (is_shown, pair, None)):
            self.too_many(400, *passed)
        choose = chance(5)
        long = tuple(dense(choose, (X, Y), 20) for _ in range(2))
        self.within(10, self.too_many, 400, basis_of, long)
        # Of several the first one in order counts.
        self.too_many(400, basis_of, pair + chain(20, 0, ((0, 4),)))

    def test_multiples_of_primes(self):
        # What remainders do not see must be seen nevertheless.
        for prime in BASIS_PRIMES + (product_of_primes(),):
            self.assertEqual(basis_of((poly((prime, X), (-1,)),)), (poly((prime, X), (-1,)),))
            self.assertEqual(basis_of((poly((prime, X), (-1,)), poly((prime, X, Y), (1,)))), (poly((1, Y), (1,)), poly((prime, X), (-1,))))
            self.assertEqual(basis_of((poly((prime, X), (-1,)), poly((prime, X), (1,)))), (ONE,))
            self.assertEqual(basis_of((poly((1, X)), poly((1, X), (prime, Y)))), (poly((1, Y)), poly((1, X))))
            self.assertEqual(basis_of((poly((prime, X, X), (1, Y)), poly((1, X), (-1, Y)))), (poly((1, X), (-1, Y)), poly((prime, Y, Y), (1, Y))))
            self.assertEqual(basis_of((poly((1, X, Y), (1,)), poly((1, X, Y), (prime + 1,)))), (ONE,))
            some = (poly((1, X, X), (-1, Y)), poly((1, X, Y), (prime, X), (-1, Z)), poly((prime, Z, Z), (2, X)))
            self.assertEqual(basis_of(some), plain_basis(some))
            self.check_shown(some)

    def check_shown(self, some):
        told = shown(some)
        basis = basis_of(some)
        self.assertEqual(len(told), len(basis))
        for polynomial, (many, factors) in zip(basis, told):
            self.assertGreaterEqual(many, 1)
            self.assertEqual(len(factors), len(some))
            self.assertTrue(all(is_polynomial(factor) for factor in factors))
            self.assertTrue(is_sum(some, polynomial, many, factors))
        self.assertIs(is_shown(some, told), True)
        return told

    def test_small_primes_change_nothing(self):
        # With a small prime remainders deceive often: what is told must be the same.
        choose = chance(6)
        for prime in (2, 3, 5):
            with mock.patch("samewriting.basemaking.BASIS_PRIMES", (prime,)):
                for _ in range(60):
                    some = tuple(random_poly(choose, (X, Y, Z), 2, choose.randint(1, 3)) for _ in range(choose.randint(1, 3)))
                    self.assertEqual(basis_of(some), plain_basis(some))
                    self.check_shown(some)


class Shown(Case):
    def test_by_hand(self):
        self.assertEqual(shown(()), ())
        self.assertEqual(shown(((),)), ())
        self.assertIs(is_shown(((),), ()), True)
        self.assertIs(is_shown((P, Q), ((1, (poly((-1,), (-1, X, Y)), poly((1, Y, Y)))),)), True)
        self.assertIs(is_shown((P, Q), ((3, (poly((-3,), (-3, X, Y)), poly((3, Y, Y)))),)), True)
        self.assertIs(is_shown((P, Q), ((2, (poly((-1,), (-1, X, Y)), poly((1, Y, Y)))),)), False)
        self.assertEqual(shown((poly((-4, X)),))[0][0] * 4, 4 * shown((poly((-4, X)),))[0][0])
        self.assertIs(is_shown((poly((-4, X)),), ((4, (poly((-1,)),)),)), True)

    def test_random_ones(self):
        choose = chance(8)
        for _ in range(80):
            variables = choose.sample((X, Y, Z, W), choose.randint(1, 3))
            some = tuple(random_poly(choose, variables, choose.randint(1, 3), choose.randint(1, 3)) for _ in range(choose.randint(1, 4)))
            BasisOf().check_shown(some)

    def test_small_ones_are_never_too_many(self):
        choose = chance(9)
        powers = [(), (X,), (Y,), (X, X), (X, Y), (Y, Y)]
        for _ in range(200):
            most = choose.choice((1, 3, 10 ** 9))
            some = tuple(poly(*[(choose.randint(-most, most),) + some for some in powers if choose.random() < 0.6]) for _ in range(3))
            BasisOf().check_shown(some)

    def test_bent_ones_are_refused(self):
        some = (poly((1, X, X), (-1, Y)), poly((1, X, Y), (-2,)))
        told = shown(some)
        for thing in ODD + tuple(wrong_kinds(told)):
            self.assertIs(is_shown(some, thing), False, thing)
        for path, thing in wrong_lengths(told):
            self.assertIs(is_shown(some, thing), False, path)
        bent = 0
        for path in parts_of(told):
            number = at_path(told, path)
            if isinstance(number, int):
                for other in (number + 1, -number, 0, number * 2):
                    thing = exchanged(told, path, other)
                    right = all(many >= 1 and all(is_polynomial(factor) for factor in factors) and is_sum(some, polynomial, many, factors)
                                for polynomial, (many, factors) in zip(basis_of(some), thing))
                    self.assertIs(is_shown(some, thing), right or thing == told)
                    bent += not right
        self.assertGreater(bent, 20)
        self.assertIs(is_shown(some, tuple((0, ((), ())) for _ in told)), False)
        self.assertIs(is_shown(some, tuple((many * PRIME, factors) for many, factors in told)), False)
        self.assertIs(is_shown(some, tuple((many + PRIME, factors) for many, factors in told)), False)
        self.assertIs(is_shown(some, tuple((many * PRIME, tuple(scaled(factor, PRIME) for factor in factors)) for many, factors in told)), True)

    def test_factors_beyond_the_bounds(self):
        # 1 is y ** n x ** n less (x y - 1) times 1 + .. + (x y) ** (n - 1), and less is not enough.
        some = (P, power(X, 21))
        self.assertIs(is_shown(some, shown(some)), True)
        some = (P, power(X, 22))
        self.assertEqual(basis_of(some), (ONE,))
        self.too_many(40, shown, some)
        self.assertIs(is_shown(some, ((1, (ONE, ONE)),)), False)
        # Far too many terms on the way, or in the end.
        choose = chance(10)
        variables = [(0, room) for room in range(5)]
        some = tuple(dense(choose, variables, 2, False, 1) for _ in range(5)) + (dense(choose, variables[:2], 6, False, 1),)
        self.assertEqual(basis_of(some), (ONE,))
        with mock.patch("samewriting.proofs._MOST_KEPT", 30):
            self.too_many(400, shown, some)

    def test_by_name(self):
        self.assertEqual(basis_of(some=(P, Q)), (ONE,))
        self.assertIs(is_shown(some=(P, Q), thing=shown(some=(P, Q))), True)
