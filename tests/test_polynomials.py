from helpers import ODD, PRIME, Case, chance, poly, power, wrong_kinds, wrong_lengths
from samewriting.errors import BadNumber, BadPolynomial, BadWorths
from samewriting.polynomials import (cleared, degree_of, first_term, is_polynomial, plus, put_in, scaled, times,
                                     value_at, variables_of)

X, Y, Z, W = (0, 0), (0, 1), (1, 0), (3, 15)
P = poly((1, X, Y), (-1,))
SOME = poly((3, X, X, Y), (-2, Z), (7, W, W), (5,))


def of_terms(many):
    """A polynomial of so many terms, in X and Y, of low degrees."""
    terms = [(1,) + (X,) * first + (Y,) * (total - first) for total in range(40) for first in range(total + 1)]
    return poly(*terms[:many])


class IsPolynomial(Case):
    def test_right_ones(self):
        for polynomial in ((), (((), 5),), (((), -5),), P, SOME, power(X, 40), power(W, 1)):
            self.assertIs(is_polynomial(polynomial), True)
        self.assertIs(is_polynomial((((), 10 ** 100),)), True)

    def test_by_hand(self):
        self.assertEqual(P, (((), -1), (((X, 1), (Y, 1)), 1)))

    def test_bounds(self):
        self.assertIs(is_polynomial(of_terms(400)), True)
        self.assertIs(is_polynomial(of_terms(401)), False)
        self.assertIs(is_polynomial(power(X, 40)), True)
        self.assertIs(is_polynomial(power(X, 41)), False)
        self.assertIs(is_polynomial(((((X, 20), (Y, 20)), 1),)), True)
        self.assertIs(is_polynomial(((((X, 20), (Y, 21)), 1),)), False)
        forty = tuple((child, room) for child in range(4) for room in range(10))
        self.assertIs(is_polynomial(poly((1,) + forty)), True)
        self.assertIs(is_polynomial(poly((1,) + forty + ((0, 15),))), False)
        for variable in ((4, 0), (0, 16), (-1, 0), (0, -1), (True, 0), (0, False), (0,), (0, 0, 0), [0, 0], 0, None, ("0", 0)):
            self.assertIs(is_polynomial(((((variable, 1),), 1),)), False)

    def test_wrong_ones(self):
        wrong = [value for value in ODD if value != ()] + [
            [((), 5)], (((), 0),), (((), True),), (((), 5.0),), (([], 5),), (((), 5, 5),), (((),),),
            (((), 5), ((), 6)), (((), 5), ((), 5)), ((((X, 1),), 1), ((), 1)), ((((X, 0),), 1),), ((((X, -1),), 1),),
            ((((X, True),), 1),), ((((X, 1), (X, 1)), 1),), ((((X, 1), (X, 2)), 1),), ((((Y, 1), (X, 1)), 1),),
            ((((X, 1), (X, 2)), 1),), (((((0, 0), 1),), 1), ((((0, 0), 1),), 2)), (((X, 1), 1),), ((((X,),), 1),)]
        self.takes_none_of(is_polynomial, wrong)
        self.takes_none_of(is_polynomial, wrong_kinds(SOME))
        for path, changed in wrong_lengths(SOME):
            # A term may go, or a pair of its powers, as long as powers stay ascending.
            right = path == () and len(changed) < len(SOME) or changed in self.with_fewer_pairs()
            self.assertIs(is_polynomial(changed), right, changed)

    def with_fewer_pairs(self):
        told = []
        for place, (powers, number) in enumerate(SOME):
            for spot in range(len(powers)):
                fewer = powers[:spot] + powers[spot + 1:]
                rest = SOME[:place] + ((fewer, number),) + SOME[place + 1:]
                if [term[0] for term in rest] == sorted(set(term[0] for term in rest)):
                    told.append(rest)
        return told

    def test_all_functions_refuse_what_is_none(self):
        for value in [value for value in ODD if value != ()] + [power(X, 41), of_terms(401), (((), True),)]:
            for function in (variables_of, degree_of, first_term, cleared):
                self.raises(BadPolynomial, function, value)
            for function in (plus, times):
                self.raises(BadPolynomial, function, value, P)
                self.raises(BadPolynomial, function, P, value)
            self.raises(BadPolynomial, scaled, value, None)
            self.raises(BadPolynomial, put_in, value, None)
            self.raises(BadPolynomial, value_at, value, None)


class Plain(Case):
    def test_variables_and_degree(self):
        self.assertEqual(variables_of(SOME), (X, Y, Z, W))
        self.assertEqual(variables_of(()), ())
        self.assertEqual(variables_of(poly((5,))), ())
        self.assertEqual([degree_of(p) for p in ((), poly((5,)), P, SOME, power(X, 40))], [0, 0, 2, 3, 40])

    def test_first_term(self):
        self.assertIsNone(first_term(()))
        self.assertEqual(first_term(poly((5,))), ((), 5))
        self.assertEqual(first_term(P), (((X, 1), (Y, 1)), 1))
        # A higher degree first; of the same degree what comes first when written out.
        self.assertEqual(first_term(poly((1, X), (1, W, W))), (((W, 2),), 1))
        self.assertEqual(first_term(poly((1, X, Y), (1, Y, Y), (2, X, X))), (((X, 2),), 2))
        self.assertEqual(first_term(poly((1, X, W), (1, Y, Y))), (((X, 1), (W, 1)), 1))
        self.assertEqual(first_term(poly((1, Y, Y, Y), (1, X, W, W))), (((X, 1), (W, 2)), 1))
        self.assertEqual(first_term(poly((1, X, Y, Y), (1, X, Y, Z), (1, X, X, W))), (((X, 2), (W, 1)), 1))

    def test_sums_and_products(self):
        self.assertEqual(plus(P, poly((1,))), poly((1, X, Y)))
        self.assertEqual(plus(P, scaled(P, -1)), ())
        self.assertEqual(times(poly((1, X), (1,)), poly((1, X), (-1,))), poly((1, X, X), (-1,)))
        self.assertEqual(times(P, ()), ())
        self.assertEqual(times((), ()), ())
        self.assertEqual(times(poly((3,)), P), scaled(P, 3))
        self.assertEqual(scaled(P, 0), ())
        self.assertEqual(scaled(P, -2), poly((-2, X, Y), (2,)))
        for number in (None, True, False, 1.0, "1", (1,)):
            self.raises(BadNumber, scaled, P, number)

    def test_cleared(self):
        self.assertEqual(cleared(()), ())
        self.assertEqual(cleared(poly((-4,))), poly((1,)))
        self.assertEqual(cleared(poly((6, X), (-4, X, Y))), poly((-3, X), (2, X, Y)))
        self.assertEqual(cleared(poly((-6, X), (4,))), poly((3, X), (-2,)))
        self.assertEqual(cleared(SOME), SOME)

    def test_bounds(self):
        self.assertEqual(len(plus(of_terms(399), power(Y, 40))), 400)
        self.assertEqual(len(plus(of_terms(400), power(Y, 1))), 400)
        self.too_many(400, plus, of_terms(400), power(Y, 40))
        self.assertEqual(times(power(X, 20), power(Y, 20)), ((((X, 20), (Y, 20)), 1),))
        self.too_many(40, times, power(X, 20), power(X, 21))
        self.too_many(40, times, plus(power(X, 20), of_terms(300)), plus(power(X, 21), of_terms(300)))
        # 20 times 20 terms, and one more.
        line = poly(*[(1,) + (X,) * many for many in range(20)])
        other = poly(*[(1,) + (Y,) * many for many in range(20)])
        self.assertEqual(len(times(line, other)), 400)
        self.too_many(400, times, line, plus(other, power(Y, 20)))
        # Too many products that come to few terms.
        long = poly(*[(1,) + (X,) * many for many in range(20)])
        self.assertEqual(times(long, poly((1, X), (-1,))), poly((1,) + (X,) * 20, (-1,)))


class PuttingIn(Case):
    def test_all_at_once(self):
        self.assertEqual(put_in(poly((1, X, X), (1, Y)), ((X, power(Y, 1)), (Y, power(X, 1)))), poly((1, Y, Y), (1, X)))
        self.assertEqual(put_in(P, ((X, poly((1, Y), (2,))),)), poly((1, Y, Y), (2, Y), (-1,)))
        self.assertEqual(put_in(P, ()), P)
        self.assertEqual(put_in((), ((X, P),)), ())
        self.assertEqual(put_in(P, ((X, ()), (W, P))), poly((-1,)))
        self.assertEqual(put_in(poly((1, X, X)), ((X, poly((5,))),)), poly((25,)))
        self.assertEqual(put_in(poly((1, X, Y)), ((X, poly((5,))), (Y, poly((1, X), (1,))))), poly((5, X), (5,)))

    def test_value_at(self):
        self.assertEqual(value_at(P, ((X, 3), (Y, -5))), -16)
        self.assertEqual(value_at(SOME, ((X, 2), (Y, 1), (Z, -1), (W, 0))), 19)
        self.assertEqual(value_at((), ()), 0)
        self.assertEqual(value_at(poly((5,)), ((W, 7),)), 5)
        self.assertEqual(value_at(power(X, 40), ((X, 10 ** 30),)), 10 ** 1200)

    def test_bad_worths(self):
        for worths in (None, [], [(X, P)], (X, P), ((X,),), ((X, P, P),), ([X, P],), ((X, P), (X, P)), ((Y, P), (X, P)),
                       ((X, 5),), ((X, None),), ((X, [P]),), ((X, power(X, 41)),), (((4, 0), P),), (((True, 0), P),),
                       ((None, P),), ((X, P), (X, ())), {X: P}):
            self.raises(BadWorths, put_in, P, worths)
        for worths in (None, [], [(X, 1), (Y, 1)], ((X, 1),), ((X, 1), (X, 2)), ((Y, 1), (X, 1)), ((X, 1), (Y, True)),
                       ((X, 1), (Y, 1.0)), ((X, 1), (Y, None)), ((X, P), (Y, P)), ((X, 1), (Y, 1, 1)), ((X, 1), [Y, 1]),
                       (), ((X, 1), (Y, 1), ((0, 16), 1)), {X: 1, Y: 1}):
            self.raises(BadWorths, value_at, P, worths)

    def test_bounds(self):
        self.assertEqual(put_in(power(X, 2), ((X, power(Y, 20)),)), power(Y, 40))
        self.too_many(40, put_in, poly((1, X, Y)), ((X, power(Z, 20)), (Y, power(Z, 21))))
        # Too high a degree, and too many terms besides: the degree counts.
        self.too_many(40, put_in, power(X, 3), ((X, plus(power(Y, 14), of_terms(300))),))
        # What is too high, or too long, but goes away.
        gone = poly((1, X, X, X), (-1, Y, Y, Y), (1, Z))
        high = plus(power(W, 14), of_terms(20))
        self.assertEqual(put_in(gone, ((X, high), (Y, high))), power(Z, 1))
        self.too_many(40, put_in, gone, ((X, high), (Y, plus(high, power(W, 13)))))
        self.assertEqual(put_in(poly((1, X), (-1, Y)), ((X, of_terms(400)), (Y, of_terms(400)))), ())
        three = poly((1, X), (1, Y), (1, Z))
        # The powers of three variables with the degree 26 are 378, with the degree 27 there are 406.
        self.assertEqual(len(put_in(power(W, 26), ((W, three),))), 378)
        self.too_many(400, put_in, power(W, 27), ((W, three),))

    def test_numbers_that_a_prime_divides(self):
        self.too_many(40, put_in, poly((PRIME, X, X, X)), ((X, power(Y, 14)),))
        three = poly((1, X), (1, Y), (1, Z))
        self.too_many(400, put_in, poly((PRIME,) + (W,) * 27), ((W, three),))
        self.assertEqual(len(put_in(poly((PRIME,) + (W,) * 26), ((W, three),))), 378)
        self.assertEqual(put_in(poly((PRIME, X), (1, Y)), ((X, power(Z, 2)),)), poly((PRIME, Z, Z), (1, Y)))
        # The degree counts, though remainders show the many terms alone.
        self.too_many(40, put_in, poly((PRIME, X, X, X), (1,) + (W,) * 27), ((X, power(Y, 14)), (W, three)))

    def test_just_four_hundred_terms_of_many(self):
        three, further = poly((1, X), (1, Y), (1, Z)), (3, 14)
        for many in (22, 23):
            long = poly((1,) + (W,) * 26, *[(1, further) + (X,) * number for number in range(many)])
            if many == 22:
                self.assertEqual(len(put_in(long, ((W, three),))), 400)
            else:
                self.too_many(400, put_in, long, ((W, three),))

    def test_far_too_much_is_refused_within_seconds(self):
        every = poly(*[(1, (child, room)) for child in range(4) for room in range(16)])
        for polynomial, worth, most in ((power(X, 40), every, 400), (power(X, 20), times(every, poly((1, X), (1, Z))), 400),
                                        (power(X, 21), times(every, poly((1, X), (1, Z))), 40)):
            told = self.within(10, put_in, polynomial, ((X, worth),))
            self.assertEqual(told.most, most)
        told = self.within(10, times, of_terms(400), of_terms(60))
        self.assertEqual(told.most, 400)


class Chance(Case):
    def one(self, choose, terms=4, degree=3):
        return poly(*[(choose.choice((-3, -2, -1, 1, 2, 5)),) + tuple(choose.choice((X, Y, Z, W))
                      for _ in range(choose.randint(0, degree))) for _ in range(choose.randint(0, terms))])

    def test_putting_in_goes_over_sums_and_products(self):
        choose = chance(6)
        for _ in range(300):
            one, other = self.one(choose), self.one(choose)
            numbers = tuple((variable, choose.randint(-9, 9)) for variable in (X, Y, Z, W))
            worths = tuple((variable, self.one(choose, 3, 2)) for variable in (X, Z, W))
            self.assertTrue(is_polynomial(one))
            self.assertEqual(put_in(plus(one, other), worths), plus(put_in(one, worths), put_in(other, worths)))
            self.assertEqual(put_in(times(one, other), worths), times(put_in(one, worths), put_in(other, worths)))
            self.assertEqual(value_at(plus(one, other), numbers), value_at(one, numbers) + value_at(other, numbers))
            self.assertEqual(value_at(times(one, other), numbers), value_at(one, numbers) * value_at(other, numbers))
            below = tuple((variable, value_at(worth, numbers)) for variable, worth in worths)
            below = tuple(sorted(below + (numbers[1],)))
            self.assertEqual(value_at(put_in(one, worths), numbers), value_at(one, below))
            self.assertEqual(times(one, other), times(other, one))
            if one and other:
                self.assertEqual(degree_of(times(one, other)), degree_of(one) + degree_of(other))

    def test_the_value_by_hand(self):
        choose = chance(7)
        for _ in range(200):
            one = self.one(choose, 6, 5)
            numbers = {variable: choose.randint(-4, 4) for variable in (X, Y, Z, W)}
            total = 0
            for powers, number in one:
                for variable, many in powers:
                    for _ in range(many):
                        number *= numbers[variable]
                total += number
            self.assertEqual(value_at(one, tuple(sorted(numbers.items()))), total)
