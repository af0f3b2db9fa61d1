from fractions import Fraction
from math import gcd

from helpers import ODD, PRIME, Case, chance, poly, power, wrong_kinds
from ideals import less
from samewriting.dividing import divided, is_basis, overlap
from samewriting.errors import BadPolynomial, BadPolynomials
from samewriting.polynomials import cleared, degree_of, is_polynomial, plus, scaled, times

X, Y, Z, W = (0, 0), (0, 1), (1, 0), (3, 15)
P = poly((1, X, Y), (-1,))
Q = poly((1, X, X))


def written(powers):
    return [variable for variable, many in powers for _ in range(many)]


def key(powers):
    """Greater powers first."""
    return -len(written(powers)), written(powers)


def joined(powers, other):
    counts = dict(powers)
    for variable, many in other:
        counts[variable] = counts.get(variable, 0) + many
    return tuple(sorted(counts.items()))


def plain_divided(polynomial, several):
    """By turns, with fractions, as the document tells it."""
    left = {powers: Fraction(number) for powers, number in polynomial}
    heads = [min(other, key=lambda term: key(term[0])) for other in several]
    parts = [{} for _ in several]
    while True:
        fits = [powers for powers in left if any(less(powers, head[0]) is not None for head in heads)]
        if not fits:
            break
        powers = min(fits, key=key)
        spot = [less(powers, head[0]) is not None for head in heads].index(True)
        wanted = less(powers, heads[spot][0])
        often = left[powers] / heads[spot][1]
        parts[spot][wanted] = parts[spot].get(wanted, 0) + often
        for other, number in several[spot]:
            both = joined(other, wanted)
            left[both] = left.get(both, 0) - often * number
            if not left[both]:
                del left[both]
    many = 1
    for terms in parts + [left]:
        for number in terms.values():
            many = many * number.denominator // gcd(many, number.denominator)
    told = [tuple(sorted((powers, int(number * many)) for powers, number in terms.items())) for terms in parts + [left]]
    return many, tuple(told[:-1]), told[-1]


class Division(Case):
    def test_by_hand(self):
        self.assertEqual(divided(poly((1, X, X, Y)), (P,)), (1, (power(X, 1),), power(X, 1)))
        self.assertEqual(divided((), (P,)), (1, ((),), ()))
        self.assertEqual(divided(P, ()), (1, (), P))
        self.assertEqual(divided(P, (poly((5,)),)), (5, (P,), ()))
        self.assertEqual(divided(poly((1, X, X)), (poly((2, X), (1, Y)),)),
                         (4, (poly((2, X), (-1, Y)),), poly((1, Y, Y))))
        self.assertEqual(divided(poly((6, X)), (poly((4, X)),)), (2, (poly((3,)),), ()))
        # The first one that does so takes it away.
        self.assertEqual(divided(Q, (power(X, 2), power(X, 1))), (1, (poly((1,)), ()), ()))
        self.assertEqual(divided(Q, (power(X, 1), power(X, 2))), (1, (power(X, 1), ()), ()))
        # What is not divided stays, though more is taken away behind it.
        self.assertEqual(divided(poly((1, X, X), (1, Y)), (poly((1, Y), (-1,)),)), (1, (poly((1,)),), poly((1, X, X), (1,))))

    def test_k_is_the_least_number(self):
        self.assertEqual(divided(poly((1, X), (1, Y)), (poly((2, X)), poly((3, Y)))), (6, (poly((3,)), poly((2,))), ()))
        self.assertEqual(divided(poly((2, X), (3, Y)), (poly((2, X)), poly((3, Y)))), (1, (poly((1,)), poly((1,))), ()))
        self.assertEqual(divided(poly((1, X)), (poly((-1, X), (1,)),)), (1, (poly((-1,)),), poly((1,))))
        self.assertEqual(divided(poly((3, X)), (poly((-2, X)),)), (2, (poly((-3,)),), ()))

    def test_errors(self):
        for value in [value for value in ODD if value != ()] + [power(X, 41)]:
            self.raises(BadPolynomial, divided, value, None)
        for value in [value for value in ODD if value != ()] + [
                [P], P, (P, ()), ((),), (P, [P]), (P, None), (P,) * 61, (power(X, 41),), (P, True)]:
            self.raises(BadPolynomials, divided, Q, value)

    def test_sixty_to_divide_by(self):
        several = tuple(poly((1, (place // 16, place % 16)), (-place,)) for place in range(60))
        told = self.within(5, divided, poly((1, (3, 11)), (1, X, X), (2,)), several)
        self.assertEqual(told[2], poly((61,)))
        self.assertEqual(len(told[1]), 60)
        self.assertEqual(divided(Q, (P,) * 59 + (Q,))[1][59], poly((1,)))
        self.raises(BadPolynomials, divided, Q, several + (P,))

    def test_too_many_terms(self):
        three = poly((1, X), (-1, Y), (-1, Z), (-1, W))
        # The rest of x ** n has the powers of y, z and w of the degree n.
        told = divided(power(X, 12), (three,))
        self.assertEqual((len(told[1][0]), len(told[2])), (364, 91))
        self.too_many(400, divided, power(X, 13), (three,))
        self.assertEqual(self.within(10, divided, power(X, 40), (three,)).most, 400)
        every = poly((10 ** 40, X), *[(-1, (child, room)) for child in range(1, 4) for room in range(16)])
        self.assertEqual(self.within(10, divided, power(X, 40), (every,)).most, 400)
        line = poly(*[(1,) + (Y,) * many for many in range(20)])
        # 20 times 20 terms are left, and one term more.
        crossed = times(power(X, 20), poly(*[(1,) + (Z,) * many for many in range(20)]))
        self.assertEqual(len(divided(crossed, (plus(power(X, 20), line),))[2]), 400)
        self.too_many(400, divided, plus(crossed, power(W, 1)), (plus(power(X, 20), line),))

    def test_high_degrees(self):
        told = divided(power(X, 40), (poly((1, X), (-2, Y)),))
        self.assertEqual(told[2], poly((2 ** 40,) + (Y,) * 40))
        self.assertEqual(divided(power(X, 40), (poly((3, X), (-1, Y)),))[0], 3 ** 40)

    def test_numbers_that_a_prime_divides(self):
        told = divided(power(X, 26), (poly((PRIME, X), (-1, Y), (-1, Z)),))
        self.assertEqual((told[0], len(told[1][0]), len(told[2])), (PRIME ** 26, 351, 27))
        told = divided(power(X, 26), (poly((1, X), (-PRIME, Y), (-PRIME, Z)),))
        self.assertEqual((told[0], len(told[1][0]), len(told[2])), (1, 351, 27))
        self.too_many(400, divided, power(X, 28), (poly((PRIME, X), (-1, Y), (-1, Z)),))
        self.too_many(400, divided, power(X, 28), (poly((1, X), (-PRIME, Y), (-1, Z)),))
        self.assertIs(is_basis((poly((PRIME, X, X), (1, Y)), poly((PRIME, X, Y), (1,)))), False)

    def test_chance(self):
        choose = chance(41)
        for _ in range(400):
            polynomial = random_polynomial(choose, 4, 5)
            several = tuple(other for other in [random_polynomial(choose, 2, 3) for _ in range(3)] if other)
            told = divided(polynomial, several)
            self.assertEqual(told, plain_divided(polynomial, several))
            total = told[2]
            for part, other in zip(told[1], several):
                total = plus(total, times(part, other))
                if part:
                    self.assertLessEqual(degree_of(part) + degree_of(other), degree_of(polynomial))
            self.assertEqual(total, scaled(polynomial, told[0]))


def random_polynomial(choose, degree, terms):
    return poly(*[(choose.choice((-3, -2, -1, 1, 2)),) + tuple(choose.choice((X, Y, W))
                  for _ in range(choose.randint(0, degree))) for _ in range(choose.randint(0, terms))])


def plain_overlap(one, other):
    first = min(one, key=lambda term: key(term[0]))
    second = min(other, key=lambda term: key(term[0]))
    counts = dict(first[0])
    for variable, many in second[0]:
        counts[variable] = max(many, counts.get(variable, 0))
    met = tuple(sorted(counts.items()))
    common = gcd(first[1], second[1])
    one = times(one, ((less(met, first[0]), second[1] // common),))
    other = times(other, ((less(met, second[0]), first[1] // common),))
    return cleared(plus(one, scaled(other, -1)))


class Overlaps(Case):
    def test_by_hand(self):
        self.assertEqual(overlap(P, Q), power(X, 1))
        self.assertEqual(overlap(Q, P), power(X, 1))
        self.assertEqual(overlap(P, P), ())
        self.assertEqual(overlap(poly((4, X), (1,)), poly((6, X), (1, Y))), poly((2, Y), (-3,)))
        self.assertEqual(overlap(poly((1, X), (1,)), poly((1, Y), (1,))), poly((1, X), (-1, Y)))
        self.assertEqual(overlap(poly((5,)), poly((7,))), ())

    def test_errors(self):
        for value in [value for value in ODD] + [(), power(X, 41)]:
            self.raises(BadPolynomial, overlap, value, P)
            self.raises(BadPolynomial, overlap, P, value)

    def test_bounds(self):
        self.assertEqual(overlap(power(X, 40), power(Y, 40)), ())
        self.assertEqual(overlap(poly((1,) + (X,) * 40, (1,)), poly((1,) + (Y,) * 40, (1,))),
                         poly((1,) + (X,) * 40, (-1,) + (Y,) * 40))
        self.too_many(40, overlap, poly((1,) + (X,) * 40, (1, W)), poly((1,) + (Y,) * 40, (1,)))
        self.too_many(40, overlap, poly((1,) + (X,) * 20 + (W,), (1, Z)), poly((1,) + (Y,) * 40, (1,)))
        long = poly(*[(1,) + (Z,) * first + (W,) * second for first in range(20) for second in range(20)][:399])
        self.assertEqual(len(overlap(plus(power(X, 40), long), poly((1,) + (X,) * 40, (1, Y)))), 400)
        self.too_many(400, overlap, plus(power(X, 40), long), poly((1,) + (X,) * 40, (1, Y), (1, X)))

    def test_chance(self):
        choose = chance(42)
        for _ in range(300):
            one, other = random_polynomial(choose, 4, 4), random_polynomial(choose, 4, 4)
            if one and other:
                told = overlap(one, other)
                self.assertEqual(told, plain_overlap(one, other))
                self.assertTrue(is_polynomial(told))


class Bases(Case):
    def test_right_ones(self):
        for basis in ((), (P,), (P, P), (poly((5,)),), (P, poly((1,))), (power(X, 1), power(Y, 2)),
                      (poly((1, X), (-1, Z)), poly((1, Y), (2, W))), (power(X, 40), power(Y, 40)),
                      (poly((1, X, X), (-1, Y)), poly((1, X, Y), (-1, Z)), poly((1, X, Z), (-1, Y, Y)),
                       poly((1, Y, Y, Y), (-1, Z, Z)))):
            self.assertIs(is_basis(basis), True, basis)

    def test_wrong_ones(self):
        twisted = (poly((1, X, X), (-1, Y)), poly((1, X, Y), (-1, Z)))
        for thing in [value for value in ODD if value != ()] + [
                (P, Q), twisted, [P], P, (P, ()), ((),), (P, [P]), (power(X, 41),), (P,) * 61, (P, None),
                (poly((1,) + (X,) * 40, (1, Y)), poly((1,) + (Y,) * 40, (1, X), (1,)), poly((1, X, Y)))]:
            self.assertIs(is_basis(thing), False, thing)
        self.assertIs(is_basis((P,) * 60), True)
        self.takes_none_of(is_basis, wrong_kinds((P, poly((1,)))))

    def test_overlaps_beyond_all_bounds(self):
        # The overlap has the degree 41, or more than 400 terms: it leaves no rest all the same.
        self.assertIs(is_basis((poly((1,) + (X,) * 40, (1, W)), poly((1,) + (Y,) * 40, (1,)))), True)
        long = poly(*[(1,) + (Z,) * first + (W,) * second for first in range(20) for second in range(20)][:399])
        self.assertIs(self.within(20, is_basis, (plus(power(X, 40), long), plus(power(Y, 40), long))), True)
        self.assertIs(self.within(20, is_basis, (plus(power(X, 40), long), plus(poly((1,) + (X,) * 39 + (Y,)), long))), False)

    def test_by_divisions(self):
        choose = chance(43)
        found = 0
        for _ in range(400):
            several = tuple(other for other in [random_polynomial(choose, 2, 2) for _ in range(3)] if other)
            right = True
            for place, one in enumerate(several):
                for other in several[:place]:
                    right = right and plain_divided(plain_overlap(one, other), several)[2] == ()
            found += right
            self.assertEqual(is_basis(several), right)
        self.assertTrue(50 < found < 350, found)

    def test_sixty_within_seconds(self):
        lines = tuple(poly((7, (place // 16, place % 16)), (place + 1, (3, 14)), (-3,)) for place in range(60))
        self.assertIs(self.within(20, is_basis, lines), True)
        choose = chance(44)
        some = tuple(random_polynomial(choose, 4, 5) or P for _ in range(60))
        self.within(20, is_basis, some)
