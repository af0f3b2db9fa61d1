from fractions import Fraction
from math import gcd

from helpers import (E, EF, EFS, ES, FOUR_HUNDRED, ODD, Case, balanced, chance, comb, cycle, every_tree, nodes_in,
                     numbers_of, of_parts, one_state, plain_state, plain_told, plain_worths, poly, power,
                     random_kinds, random_numbers, set_of)
from papers import multiplies_out
from samewriting.errors import BadNumbers, BadTree, NotEven, OtherKinds, TooMany
from samewriting.evens import basis, is_even, same_even, shares, ties
from samewriting.spaces import across
from samewriting.sides import met
from samewriting.sums import is_paper
from samewriting.vanishing import powers_to

X, Y, Z = (0, 0), (0, 1), (0, 2)
T = one_state(ES)
ONE = numbers_of(T, 1, lambda name, states: (poly((1,)),) if name == "e" else (poly((2, X)),), lambda state: poly((1, X)))
OTHER = numbers_of(T, 2, lambda name, states: ((), poly((1,))) if name == "e" else (poly((1, X), (1,)), poly((2, Y))),
                   lambda state: poly((1, Y)))
THREE = ONE[:4] + ((poly((1, X, X)),),)


def counting(trees, end=poly((1, X))):
    """Tells how many nodes of rank 1 or 2 there are."""
    def rule(name, states):
        return (poly((1,) if states else (0,), *[(1, (child, 0)) for child in range(len(states))]),)
    return numbers_of(trees, 1, rule, lambda state: end)


def doubling(many, kinds=EF):
    """State k is that of f of two trees of state k - 1: the least tree of state k has 2 ** (k + 1) - 1 nodes."""
    return set_of(kinds, many, lambda name, states: min(states[0] + 1, many - 1) if name == "f" and states[0] == states[1] else 0)


class IsEven(Case):
    def test_even_ones(self):
        for numbers in (ONE, OTHER, counting(one_state(EFS)), counting(one_state(EFS), None)):
            self.assertIs(is_even(numbers), True)
        threes = (("e", 0), ("f", 3))
        for polynomial, right in ((poly((1, (0, 0), (1, 1), (2, 0)), (5,), (1, (2, 1))), True), (poly((1, (0, 0), (0, 1))), False),
                                  (poly((1, (1, 1), (1, 1))), False), (poly((1, (0, 0), (1, 0), (1, 1))), False), ((), True)):
            numbers = numbers_of(one_state(threes), 2, lambda name, states: (polynomial if name == "f" else (), ()),
                                 lambda state: None)
            self.assertIs(is_even(numbers), right)

    def test_ends(self):
        self.assertIs(is_even(THREE), False)
        self.assertIs(is_even(OTHER[:4] + ((poly((1, X), (1, Y), (3,)),),)), True)
        self.assertIs(is_even(OTHER[:4] + ((poly((1, X, Y)),),)), False)
        self.assertIs(is_even(OTHER[:4] + (((),),)), True)

    def test_rows_that_no_tree_comes_to(self):
        trees = set_of(ES, 2, lambda name, states: 0)
        numbers = numbers_of(trees, 1, lambda name, states: (power(X, 2),) if states == (1,) else ((),), lambda state: None)
        self.assertIs(is_even(numbers), False)
        numbers = numbers_of(trees, 1, lambda name, states: ((),), lambda state: power(X, 2) if state == 1 else None)
        self.assertIs(is_even(numbers), False)

    def test_errors(self):
        for value in ODD + (ONE[:4], T):
            for function in (is_even, basis, ties):
                self.raises(BadNumbers, function, value)
            self.raises(BadNumbers, shares, value, None)
            self.raises(BadNumbers, same_even, value, THREE)
            self.raises(BadNumbers, same_even, THREE, value)
        for function in (basis, ties):
            self.raises(NotEven, function, THREE)
        self.raises(NotEven, shares, THREE, E)
        for tree in (None, "e", ("f", E, E), comb(60)):
            self.raises(BadTree, shares, THREE, tree)
        self.raises(OtherKinds, same_even, THREE, counting(one_state(EF)))
        self.raises(NotEven, same_even, THREE, ONE)
        self.raises(NotEven, same_even, ONE, THREE)


class ByHand(Case):
    def test_the_example(self):
        self.assertEqual(basis(ONE), ((E, ("s", E)),))
        self.assertEqual(basis(OTHER), ((E, ("s", E), ("s", ("s", E))),))
        self.assertEqual(ties(ONE), ((),))
        told = same_even(ONE, OTHER)
        self.assertEqual(told[0], "same")
        self.assertEqual(told[1][1], ((poly((1, X), (-1, Z)),),))
        self.assertIs(is_paper(ONE, OTHER, told[1]), True)
        self.assertEqual(shares(ONE, comb(3)), ((-6, 1), (7, 1)))
        self.assertEqual(shares(ONE, E), ((1, 1), (0, 1)))

    def test_fractions(self):
        # The worths are 3, 5 and 4: the third one is half of each.
        told = {"a": 3, "b": 5, "c": 4}
        flat = numbers_of(one_state((("a", 0), ("b", 0), ("c", 0))), 1, lambda name, states: (poly((told[name],)),),
                          lambda state: None)
        self.assertEqual(basis(flat), ((("a",), ("b",)),))
        self.assertEqual(shares(flat, ("c",)), ((1, 2), (1, 2)))
        self.assertEqual(shares(flat, ("b",)), ((0, 1), (1, 1)))

    def test_ties(self):
        self.assertEqual(ties(numbers_of(T, 2, lambda name, states: (poly((1,)), poly((2,))) if name == "e" else
                                         (poly((1, X)), poly((1, Y))), lambda state: None)),
                         ((poly((1, X), (-1,)), poly((1, Y), (-2,))),))
        self.assertEqual(ties(numbers_of(T, 2, lambda name, states: (poly((1,)), poly((2,))) if name == "e" else
                                         (poly((3, X)), poly((3, Y))), lambda state: None)), ((poly((2, X), (-1, Y)),),))
        # A state that no tree has.
        unmet = numbers_of(set_of(ES, 2, lambda name, states: 0), 2, lambda name, states: ((), poly((7,))), lambda state: None)
        self.assertEqual(ties(unmet), ((power(X, 1), poly((1, Y), (-7,))), (power(X, 1), power(Y, 1), poly((1,)))))
        self.assertEqual(basis(unmet), ((E,), ()))

    def test_parted(self):
        self.assertEqual(same_even(ONE, ONE[:4] + ((poly((1, X), (1,)),),)), ("parted", E))
        self.assertEqual(same_even(ONE, ONE[:4] + ((None,),)), ("parted", E))
        slow = numbers_of(T, 1, lambda name, states: (poly((1,)),) if name == "e" else (poly((1, X), (1,)),),
                          lambda state: poly((1, X)))
        self.assertEqual(same_even(ONE, slow), ("parted", comb(2)))
        only = numbers_of(cycle(7), 1, lambda name, states: (poly((1,)),) if name == "e" else (poly((2, X)),),
                          lambda state: None if state == 5 else poly((1, X)))
        self.assertEqual(same_even(ONE, only), ("parted", comb(5)))

    def test_least_tree_in_order(self):
        # Both ("f", e, s(e)) and ("f", s(e), e) part them; of the same size the first one, as a tuple, is told.
        def made(number):
            return numbers_of(one_state(EFS), 1, lambda name, states: (poly((1,)) if name == "e" else poly((2, X)) if name == "s"
                              else poly((1, X), (1, (1, 0)), (number, X, (1, 0)), (-number, X), (-number, (1, 0)), (number,)),),
                              lambda state: poly((1, X)))
        self.assertEqual(same_even(made(1), made(2)), ("parted", ("f", ("s", E), ("s", E))))
        self.assertEqual(same_even(made(3), made(3))[0], "same")


class Bounds(Case):
    def test_basis_trees_of_many_nodes(self):
        self.assertEqual(basis(counting(doubling(8)))[7][0], balanced(8))
        self.too_many(400, basis, counting(doubling(9)))
        self.too_many(400, ties, counting(doubling(9)))
        self.too_many(400, shares, counting(doubling(9)), E)
        self.too_many(400, same_even, counting(doubling(9)), counting(one_state(EF)))
        # Told ahead of a tree that parts them.
        self.too_many(400, same_even, counting(doubling(9)), counting(one_state(EF), poly((5,))))

    def test_just_four_hundred_nodes(self):
        def told_of(parts):
            return numbers_of(of_parts(EFS, parts), 1, lambda name, states: ((),), lambda state: None)
        self.assertEqual(nodes_in(basis(told_of(FOUR_HUNDRED))[10][0]), 400)
        self.too_many(400, basis, told_of(FOUR_HUNDRED + (("s", 10),)))

    def test_basis_trees_of_many_levels(self):
        self.assertEqual(basis(counting(cycle(30)))[29], (comb(29), comb(59)))
        self.too_many(60, basis, counting(cycle(31)))
        self.too_many(60, ties, counting(cycle(31)))
        self.too_many(60, shares, counting(cycle(31)), E)
        self.too_many(60, same_even, counting(cycle(31)), counting(cycle(31)))
        self.too_many(60, same_even, counting(cycle(31)), counting(cycle(31), poly((5,))))
        flat = numbers_of(cycle(60), 1, lambda name, states: (poly((7,)),), lambda state: poly((1, X)))
        self.assertEqual(basis(flat), tuple((comb(many),) for many in range(60)))

    def test_the_first_such_tree_counts(self):
        # Too deep ones have 61 nodes, too large ones 511: those come first.
        trees = doubling(9, EFS)
        deep = numbers_of(trees, 1, lambda name, states: (poly((1, X), (1,)) if name == "s" else (),), lambda state: None)
        self.too_many(400, basis, deep)
        kinds = (("e", 0), ("f", 2), ("s", 1))

        def rule(name, states):
            if name == "f":
                return min(states[0] + 1, 8) if states[0] == states[1] and states[0] < 9 else 0
            return 0 if name == "e" else states[0] + 1 if 9 <= states[0] < 59 else 9
        both = numbers_of(set_of(kinds, 60, rule), 1, lambda name, states: (poly((1, X), (1,)) if name == "s" else (),),
                          lambda state: None)
        self.too_many(60, basis, both)

    def test_digits(self):
        product = numbers_of(one_state(EF), 1, lambda name, states: (poly((10 ** 40,)) if name == "e" else poly((1, X, (1, 0))),),
                             lambda state: None)
        self.assertEqual(len(shares(product, balanced(6))), 2)
        self.too_many(2000, shares, product, balanced(7))

        def tree_of(leaves):
            return E if leaves == 1 else ("f", tree_of(leaves // 2), tree_of(leaves - leaves // 2))
        self.assertEqual(len(shares(product, tree_of(49))), 2)
        # 50 leaves make 10 ** 2000, which has a digit more.
        self.too_many(2000, shares, product, tree_of(50))

    def test_pairs(self):
        def flat(trees):
            return numbers_of(trees, 1, lambda name, states: (poly((7,)),), lambda state: poly((1, X)))
        self.too_many(400, same_even, flat(cycle(17)), flat(cycle(25)))
        self.too_many(60, same_even, flat(cycle(16)), flat(cycle(25)))
        self.too_many(20000, same_even, flat(cycle(3, (), EFS)), flat(cycle(47, (), EFS)))
        self.assertEqual(same_even(flat(cycle(4)), flat(cycle(15)))[0], "same")

    def test_many_goals_within_seconds(self):
        choose = chance(5)
        kinds = (("a", 0), ("b", 0), ("f", 2))

        def made(many):
            trees = set_of(kinds, many, lambda name, states: choose.randrange(many))
            return numbers_of(trees, 1, lambda name, states: (poly(({"a": 1, "b": 3}[name],)) if not states else
                              poly((1, X), (1, X, (1, 0)), (2, (1, 0))),), lambda state: poly((1, X)))
        one, other = made(4), made(35)
        self.assertEqual(len(met(one, other)), 140)
        told = self.within(30, same_even, one, other)
        self.assertEqual(told[0], "same")
        self.assertIs(self.within(30, is_paper, one, other, told[1]), True)

    def test_eight_rooms_within_seconds(self):
        choose = chance(6)
        kinds = (("a", 0), ("b", 0), ("f", 3))
        trees = set_of(kinds, 15, lambda name, states: choose.randrange(15))

        def rule(name, states):
            some = [poly(*[(choose.choice((-2, 1, 3)),) + tuple((child, choose.randrange(8)) for child in range(len(states))
                    if choose.random() < 0.5) for _ in range(2)]) for _ in range(3)]
            return tuple(some[room % 3] for room in range(8))
        numbers = numbers_of(trees, 8, rule, lambda state: poly((1, X)))
        told = self.within(30, basis, numbers)
        self.assertEqual([len(row) for row in told], [4] * 15)
        self.within(30, ties, numbers)
        wide = set_of(kinds[:2] + (("f", 2),), 60, lambda name, states: choose.randrange(60))
        numbers = numbers_of(wide, 8, rule, lambda state: poly((1, X)))
        self.within(30, basis, numbers)
        self.assertEqual(self.within(30, same_even, numbers, numbers)[0], "same")


class Chance(Case):
    def test_all_by_going_through_trees(self):
        choose = chance(91)
        told = {"same": 0, "parted": 0, "basis": 0}
        for _ in range(250):
            kinds = random_kinds(choose)
            numbers = random_numbers(choose, kinds, True)
            self.assertTrue(is_even(numbers))
            every = every_tree(kinds, 5 if len(kinds) < 4 else 4)[:150]
            try:
                found = basis(numbers)
            except TooMany:
                continue
            told["basis"] += 1
            self.check_basis(numbers, every, found)
            self.check_ties(numbers, found)
            self.check_shares(numbers, choose.choice(every), found)
            other = random_numbers(choose, kinds, True) if choose.random() < 0.5 else numbers[:4] + (numbers[4][::-1],)
            try:
                told[self.check_same(numbers, other, every)] += 1
            except TooMany:
                continue
        self.assertTrue(min(told.values()) > 20, told)

    def vector(self, numbers, tree):
        return plain_worths(numbers, tree) + (1,)

    def check_basis(self, numbers, every, found):
        for state in range(numbers[1][2]):
            rows = ()
            wanted = []
            width = numbers[2] + 1
            for tree in every:
                if plain_state(numbers[1], tree) == state:
                    longer = rows + (self.vector(numbers, tree),)
                    if len(across(width, longer)) < len(across(width, rows)):
                        rows = longer
                        wanted.append(tree)
            self.assertEqual(list(found[state][:len(wanted)]), wanted)
            self.assertTrue(all(tree not in every for tree in found[state][len(wanted):]))
            self.assertLessEqual(len(found[state]), width)

    def check_ties(self, numbers, found):
        powers = powers_to(tuple((0, room) for room in range(numbers[2])), 1)
        for row, polynomials in zip(found, ties(numbers)):
            stairs = across(len(powers), tuple(self.vector(numbers, tree) for tree in row))
            wanted = tuple(tuple(sorted((some, number) for some, number in zip(powers, stair) if number)) for stair in stairs)
            self.assertEqual(polynomials, wanted)

    def check_shares(self, numbers, tree, found):
        told = shares(numbers, tree)
        row = found[plain_state(numbers[1], tree)]
        self.assertEqual(len(told), len(row))
        total = [Fraction(0)] * (numbers[2] + 1)
        for (above, below), known in zip(told, row):
            self.assertTrue(below >= 1 and gcd(above, below) == 1)
            total = [x + Fraction(above, below) * y for x, y in zip(total, self.vector(numbers, known))]
        self.assertEqual(tuple(total), self.vector(numbers, tree))

    def check_same(self, one, other, every):
        told = same_even(one, other)
        parting = [tree for tree in every if plain_told(one, tree) != plain_told(other, tree)]
        if told[0] == "same":
            self.assertEqual(parting, [])
            self.assertIs(is_paper(one, other, told[1]), True)
            self.assertTrue(multiplies_out(one, other, met(one, other), told[1]))
        elif parting:
            self.assertEqual(told[1], parting[0])
        else:
            self.assertNotEqual(plain_told(one, told[1]), plain_told(other, told[1]))
            self.assertGreaterEqual(nodes_in(told[1]), nodes_in(every[-1]))
        return told[0]
