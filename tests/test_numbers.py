from helpers import (E, EF, ES, ODD, Case, balanced, chance, comb, cycle, every_tree, exchanged, numbers_of,
                     one_state, plain_state, plain_told, plain_worths, poly, power, random_kinds, random_numbers,
                     random_set, set_of, wrong_kinds, wrong_lengths)
from samewriting.errors import BadNumbers, BadSet, BadTree, OtherKinds
from samewriting.numbers import is_numbers, kept, number_told, worths
from samewriting.sets import is_set

X, Y, Z = (0, 0), (0, 1), (1, 0)
T = one_state(ES)
ONE = numbers_of(T, 1, lambda name, states: (poly((1,)),) if name == "e" else (poly((2, X)),), lambda state: poly((1, X)))
OTHER = numbers_of(T, 2, lambda name, states: ((), poly((1,))) if name == "e" else (poly((1, X), (1,)), poly((2, Y))),
                   lambda state: poly((1, Y)))
SQUARES = numbers_of(T, 1, lambda name, states: (poly((10 ** 40,)),) if name == "e" else (poly((1, X, X)),),
                     lambda state: poly((1, X)))


def raising(first, many):
    """Tells first, and of each further s the power of it."""
    return numbers_of(T, 1, lambda name, states: (poly((first,)),) if name == "e" else (power(X, many),),
                      lambda state: poly((1, X)))


class IsNumbers(Case):
    def test_right_ones(self):
        for numbers in (ONE, OTHER, SQUARES):
            self.assertIs(is_numbers(numbers), True)
        self.assertIs(is_numbers(numbers_of(cycle(60), 8, lambda name, states: ((),) * 8, lambda state: None)), True)
        twice = numbers_of(one_state(EF), 1, lambda name, states: (poly((1, X, Z), (1,)) if name == "f" else (),),
                           lambda state: None)
        self.assertIs(is_numbers(twice), True)

    def test_bounds(self):
        def with_rooms(rooms):
            return numbers_of(T, rooms, lambda name, states: ((),) * rooms, lambda state: None)
        self.assertIs(is_numbers(with_rooms(8)), True)
        self.assertIs(is_numbers(with_rooms(9)), False)
        self.assertIs(is_numbers(with_rooms(0)), False)

        def with_number(number):
            return numbers_of(T, 1, lambda name, states: (poly((number,)),), lambda state: poly((number, X)))
        for sign in (1, -1):
            self.assertIs(is_numbers(with_number(sign * 10 ** 40)), True)
            self.assertIs(is_numbers(with_number(sign * (10 ** 40 + 1))), False)

        def with_variable(in_leaf, in_s, in_end):
            return numbers_of(T, 2, lambda name, states: (in_leaf if name == "e" else in_s, ()), lambda state: in_end)
        self.assertIs(is_numbers(with_variable((), power(Y, 40), power(Y, 40))), True)
        self.assertIs(is_numbers(with_variable((), power(Y, 41), ())), False)
        self.assertIs(is_numbers(with_variable((), (), power(Y, 41))), False)
        self.assertIs(is_numbers(with_variable(power(X, 1), (), ())), False)
        self.assertIs(is_numbers(with_variable((), power(Z, 1), ())), False)
        self.assertIs(is_numbers(with_variable((), (), power(Z, 1))), False)
        self.assertIs(is_numbers(with_variable((), power((0, 2), 1), ())), False)
        self.assertIs(is_numbers(with_variable((), (), power((0, 2), 1))), False)
        self.assertIs(is_numbers(numbers_of(cycle(61), 1, lambda name, states: ((),), lambda state: None)), False)

    def test_wrong_ones(self):
        wrong = [value for value in ODD] + [
            list(ONE), ONE[:4], ONE + ((),), ("number",) + ONE[1:], exchanged(ONE, (2,), True), exchanged(ONE, (4,), ()),
            exchanged(ONE, (4,), (None, None)), exchanged(ONE, (4, 0), 0), exchanged(ONE, (3,), ()),
            exchanged(ONE, (3, 1, 0), (None,)), exchanged(ONE, (1,), T[:4])]
        self.takes_none_of(is_numbers, wrong)
        self.assertIs(is_numbers(exchanged(ONE, (4, 0), None)), True)
        self.assertIs(is_numbers(exchanged(ONE, (1, 4), ())), True)
        for numbers in (ONE, OTHER):
            wrong = [changed for changed in wrong_kinds(numbers) if not isinstance(changed, tuple) or changed[4:] != ((None,),)]
            self.takes_none_of(is_numbers, wrong)
            for path, changed in wrong_lengths(numbers):
                if len(path) < 4 and path != (1, 4) and path[:2] != (4, 0):
                    self.assertIs(is_numbers(changed), False, changed)

    def test_all_functions_refuse_what_is_none(self):
        for value in ODD + (ONE[:4], T):
            self.raises(BadNumbers, worths, value, None)
            self.raises(BadNumbers, number_told, value, None)
            self.raises(BadNumbers, kept, value, None)


class Worths(Case):
    def test_by_hand(self):
        for many in range(8):
            self.assertEqual(worths(ONE, comb(many)), (2 ** many,))
            self.assertEqual(number_told(ONE, comb(many)), 2 ** many)
            self.assertEqual(worths(OTHER, comb(many)), (many, 2 ** many))
            self.assertEqual(number_told(OTHER, comb(many)), 2 ** many)

    def test_children_and_states(self):
        trees = set_of(EF, 2, lambda name, states: 0 if name == "e" else 1, ())
        told = numbers_of(trees, 1, lambda name, states: (poly((3,)) if name == "e" else
                          poly((1, X, Z), (10 * states[0] + 100 * states[1], X)),),
                          lambda state: poly((1, X), (-5,)) if state == 1 else None)
        tree = ("f", ("f", E, E), E)
        self.assertEqual(worths(told, ("f", E, E)), (9,))
        self.assertEqual(worths(told, tree), (9 * 3 + 10 * 9,))
        self.assertEqual(worths(told, ("f", E, ("f", E, E))), (3 * 9 + 100 * 3,))
        self.assertEqual(number_told(told, tree), 112)
        self.assertIsNone(number_told(told, E))

    def test_bad_trees(self):
        for tree in (None, "e", ["e"], ("f", E, E), comb(60), ("s",)):
            self.raises(BadTree, worths, ONE, tree)
            self.raises(BadTree, number_told, ONE, tree)

    def test_two_thousand_digits(self):
        self.assertEqual(worths(raising(10 ** 40, 7), comb(2)), (10 ** 1960,))
        self.too_many(2000, worths, raising(10 ** 40, 8), comb(2))
        self.assertEqual(worths(raising(10 ** 40, 25), comb(1)), (10 ** 1000,))
        self.too_many(2000, worths, raising(10 ** 40, 25), comb(2))

        def by_turns(last):
            """10 ** 40, then 10 ** 1000, then what the last polynomial makes of it, and None ahead of that."""
            def rule(name, states):
                if name == "e":
                    return (poly((10 ** 40,)),)
                return (power(X, 25),) if states == (0,) else (last,)
            return numbers_of(cycle(3), 1, rule, lambda state: poly((1, X), (1,)) if state == 2 else None)
        below = by_turns(poly((1, X, X), (-1,)))
        self.assertEqual(worths(below, comb(2)), (10 ** 2000 - 1,))
        self.too_many(2000, number_told, below, comb(2))
        self.assertIsNone(number_told(below, comb(1)))
        self.too_many(2000, worths, by_turns(poly((1, X, X))), comb(2))
        self.assertEqual(worths(by_turns(poly((-1, X, X), (1,))), comb(2)), (1 - 10 ** 2000,))
        self.assertEqual(number_told(by_turns(poly((-1, X, X), (1,))), comb(2)), 2 - 10 ** 2000)
        self.too_many(2000, worths, by_turns(poly((-1, X, X))), comb(2))

    def test_errors_of_what_is_not_let_by(self):
        told = numbers_of(T, 1, lambda name, states: (poly((10 ** 40,)) if name == "e" else power(X, 40),), lambda state: None)
        self.assertIsNone(number_told(told, comb(1)))
        self.too_many(2000, number_told, told, comb(2))

    def test_too_many_digits_below(self):
        # A child's worth is too long, though nothing of it comes up.
        dropping = numbers_of(cycle(4), 1, lambda name, states: (poly((10 ** 40,)),) if name == "e" else
                              (poly((7,)) if states == (2,) else power(X, 25),), lambda state: poly((1, X)))
        self.assertEqual(len(str(worths(dropping, comb(1))[0])), 1001)
        self.too_many(2000, worths, dropping, comb(2))
        self.too_many(2000, worths, dropping, comb(3))
        self.too_many(2000, number_told, dropping, comb(3))
        self.assertEqual(self.within(10, worths, raising(10 ** 40, 40), comb(59)).most, 2000)
        self.assertEqual(worths(raising(1, 40), comb(59)), (1,))
        self.assertEqual(worths(raising(-1, 39), comb(59)), (-1,))

    def test_long_polynomials_within_seconds(self):
        choose = chance(1)
        terms = {}
        while len(terms) < 400:
            chosen = tuple(sorted((choose.randrange(2), choose.randrange(8)) for _ in range(choose.randint(30, 40))))
            terms[chosen] = choose.randint(1, 10 ** 40)
        long = poly(*[(number,) + chosen for chosen, number in terms.items()])
        told = numbers_of(one_state(EF), 8, lambda name, states: (poly((2,)),) * 8 if name == "e" else (long,) * 8,
                          lambda state: None)
        self.assertTrue(is_numbers(told))
        self.within(20, worths, told, ("f", E, E))
        self.assertEqual(self.within(30, worths, told, balanced(8)).most, 2000)


class Kept(Case):
    def test_by_hand(self):
        even = cycle(2, (0,))
        told = kept(ONE, even)
        self.assertTrue(is_numbers(told))
        self.assertEqual(told[1], even)
        self.assertEqual(told, ("numbers", even, 1, ((ONE[3][0][0],), (ONE[3][1][0],) * 2), (ONE[4][0], None)))
        self.assertEqual([number_told(told, comb(many)) for many in range(5)], [1, None, 4, None, 16])

    def test_numbered_as_a_walk_meets_them(self):
        # The pairs are (0, 2), (1, 0), (0, 1), then (1, 2) ..: all six.
        trees = ("set", ES, 3, ((2,), (1, 2, 0)), (1,))
        told = kept(numbers_of(cycle(2), 1, lambda name, states: (poly((sum(states) + 1, X)),) if states else ((),),
                               lambda state: poly((state + 1, X))), trees)
        self.assertEqual(told[1], ("set", ES, 6, ((0,), (1, 2, 3, 4, 5, 0)), (2, 5)))
        self.assertEqual(told[3][1], tuple((poly((number, X)),) for number in (1, 2, 1, 2, 1, 2)))
        self.assertEqual(told[4], (None, None, poly((1, X)), None, None, poly((2, X))))

    def test_errors(self):
        for value in ODD + (T[:4], ONE):
            self.raises(BadSet, kept, ONE, value)
        self.raises(OtherKinds, kept, ONE, one_state(EF))
        fifteen = numbers_of(cycle(15), 1, lambda name, states: ((),), lambda state: None)
        self.assertEqual(kept(fifteen, cycle(4))[1][2], 60)
        self.too_many(60, kept, fifteen, cycle(16))
        sixty = numbers_of(cycle(60), 1, lambda name, states: ((),), lambda state: None)
        self.assertEqual(kept(sixty, cycle(30))[1][2], 60)
        self.too_many(60, kept, sixty, cycle(59))
        kinds = (("e", 0), ("f", 3), ("s", 1))
        four = numbers_of(cycle(4, (), kinds), 1, lambda name, states: ((),), lambda state: None)
        self.too_many(4000, kept, four, cycle(5, (), kinds))
        self.assertEqual(kept(four, cycle(3, (), kinds))[1][2], 12)

    def test_it_tells_the_same_of_what_is_in_the_set(self):
        choose = chance(12)
        for _ in range(60):
            kinds = random_kinds(choose)
            numbers = random_numbers(choose, kinds)
            trees = random_set(choose, kinds, 3)
            every = every_tree(kinds, 4)[:60]
            told = kept(numbers, trees)
            self.assertTrue(is_numbers(told))
            self.assertTrue(is_set(told[1]))
            for tree in every:
                inside = plain_state(trees, tree) in trees[4]
                self.assertEqual(number_told(told, tree), plain_told(numbers, tree) if inside else None)
                self.assertEqual(worths(numbers, tree), plain_worths(numbers, tree))
                self.assertEqual(number_told(numbers, tree), plain_told(numbers, tree))
                self.assertEqual(plain_state(told[1], tree) in told[1][4], inside)
