import itertools

from helpers import (E, EF, EFS, ES, ODD, Case, chance, comb, cycle, every_tree, numbers_of, one_state, plain_state,
                     plain_told, plain_worths, poly, power, random_kinds, random_numbers, with_turned_rooms)
from papers import for_child, moved, multiplies_out, plus, put, rows_of
from samewriting.dividing import divided
from samewriting.errors import BadDegree, BadNumbers, BadSize, OtherKinds, TooMany
from samewriting.polynomials import degree_of, is_polynomial, value_at
from samewriting.sameness import equations_of, sameness
from samewriting.sides import met
from samewriting.spaces import across
from samewriting.sums import is_paper
from samewriting.vanishing import powers_to

X, Y, Z = (0, 0), (0, 1), (0, 2)
T = one_state(ES)


def told_by(first, further, end=poly((1, X)), trees=T):
    """e has the worths first, s of a tree the worths further."""
    return numbers_of(trees, len(first), lambda name, states: tuple(first if name == "e" else further), lambda state: end)


ONE = told_by([poly((1,))], [poly((2, X))])
THREE = told_by([poly((1,))], [poly((2, X))], poly((1, X, X)))
FOUR = told_by([poly((1,)), poly((1,))], [poly((2, X)), poly((4, Y))], poly((1, Y)))
OTHER = told_by([(), poly((1,))], [poly((1, X), (1,)), poly((2, Y))], poly((1, Y)))


def flat(trees, rooms=1, end=poly((1, X))):
    return numbers_of(trees, rooms, lambda name, states: (poly((7,)),) * rooms, lambda state: end)


class ByHand(Case):
    def test_the_example(self):
        self.assertEqual(sameness(ONE, THREE, 2, 4), ("parted", ("s", E)))
        self.assertEqual(sameness(THREE, FOUR, 2, 4), ("open",))
        told = sameness(THREE, FOUR, 2, 5)
        self.assertEqual(told[0], "same")
        equations = told[1][1][0]
        self.assertIn(poly((1, X), (-1, Y)), equations)
        self.assertIn(poly((1, X, X), (-1, Z)), equations)
        self.assertIs(is_paper(THREE, FOUR, told[1]), True)
        self.assertEqual(equations_of(THREE, FOUR, 2, 5), told[1][1])
        self.assertEqual(sameness(ONE, OTHER, 1, 4)[0], "same")
        self.assertEqual(sameness(ONE, OTHER, 1, 4)[1][1], ((poly((1, X), (-1, Z)),),))

    def test_the_sums_are_those_of_the_divisions(self):
        told = sameness(ONE, OTHER, 1, 4)
        self.assertEqual(told, ("same", ("paper", ((poly((1, X), (-1, Z)),),), ((((1, ()),),), (((1, ((0, 0, poly((2,))),)),),)),
                                         ((1, ((0, 0, poly((1,))),)),))))

    def test_pairs_without_trees_so_small(self):
        told = equations_of(flat(cycle(4)), flat(cycle(4)), 2, 2)
        powers = tuple(((some, 1),) for some in powers_to((X, Y), 2))
        self.assertEqual(told[2], powers)
        self.assertEqual(told[3], powers)
        self.assertEqual(told[0], (poly((1, X, X), (-49,)), poly((1, X, Y), (-49,)), poly((1, Y, Y), (-49,)), poly((1, X), (-7,)),
                                   poly((1, Y), (-7,))))
        self.assertEqual(sameness(flat(cycle(4)), flat(cycle(4)), 2, 2), ("open",))
        self.assertEqual(sameness(flat(cycle(4)), flat(cycle(4)), 1, 4)[0], "same")

    def test_parted(self):
        self.assertEqual(sameness(ONE, told_by([poly((1,))], [poly((2, X))], None), 1, 1), ("parted", E))
        late = numbers_of(cycle(9), 1, lambda name, states: (poly((1,)),) if name == "e" else (poly((2, X)),),
                          lambda state: None if state == 6 else poly((1, X)))
        self.assertEqual(sameness(ONE, late, 1, 7), ("parted", comb(6)))
        self.assertEqual(sameness(ONE, late, 1, 9), ("parted", comb(6)))
        self.assertEqual(sameness(ONE, late, 1, 6), ("open",))
        # Lone ends that no small tree comes to.
        self.assertEqual(sameness(flat(cycle(9)), numbers_of(cycle(9), 1, lambda name, states: (poly((7,)),),
                         lambda state: None if state == 8 else poly((1, X))), 1, 3), ("open",))

    def test_nothing_is_let_by(self):
        told = sameness(flat(T, 1, None), flat(T, 1, None), 1, 1)
        self.assertEqual(told[1][3], (None,))
        self.assertIs(is_paper(flat(T, 1, None), flat(T, 1, None), told[1]), True)


class Errors(Case):
    def test_in_their_sequence(self):
        for function in (equations_of, sameness):
            for value in ODD + (ONE[:4], T):
                self.raises(BadNumbers, function, value, None, None, None)
                self.raises(BadNumbers, function, flat(one_state(EF)), value, None, None)
            self.raises(OtherKinds, function, ONE, flat(one_state(EF)), None, None)
            for degree in (0, 5, -1, True, None, "1", 1.0):
                self.raises(BadDegree, function, flat(cycle(60)), flat(cycle(59)), degree, None)
            for size in (0, 10, -1, True, None, "1", 1.0):
                self.raises(BadSize, function, flat(cycle(60)), flat(cycle(59)), 1, size)

    def test_pairs(self):
        for function in (equations_of, sameness):
            self.assertIsNotNone(self.within(20, function, flat(cycle(16)), flat(cycle(25)), 1, 1))
            self.too_many(400, function, flat(cycle(17)), flat(cycle(25)), 1, 1)
            self.too_many(20000, function, flat(cycle(3, (), EFS)), flat(cycle(47, (), EFS)), 1, 1)
            self.within(20, function, flat(cycle(4, (), EFS)), flat(cycle(35, (), EFS)), 1, 4)

    def test_trees(self):
        kinds = (("a", 0), ("b", 0), ("c", 0), ("d", 0), ("e", 0), ("f", 2))
        # 5, 25, 250 and 3125 trees of 1, 3, 5 and 7 nodes.
        for function in (equations_of, sameness):
            self.within(20, function, flat(one_state(kinds)), flat(one_state(kinds)), 1, 6)
            self.too_many(3000, function, flat(one_state(kinds)), flat(one_state(kinds)), 1, 7)
        kinds = (("a", 0), ("b", 0), ("c", 0), ("d", 1), ("e", 1), ("f", 1))
        # 3 * (1 + 3 + .. + 3 ** 5) are 1092, and with 3 ** 6 there are 3279.
        self.within(20, sameness, flat(one_state(kinds)), flat(one_state(kinds)), 1, 6)
        self.too_many(3000, sameness, flat(one_state(kinds)), flat(one_state(kinds)), 1, 7)
        self.too_many(400, sameness, flat(cycle(17, (), kinds)), flat(cycle(25, (), kinds)), 1, 7)
        # As near to 3000 as can be: 3, 54 and 2916 trees of 1, 4 and 7 nodes.
        threes = (("a", 0), ("b", 0), ("c", 0), ("d", 3), ("e", 3))
        self.assertEqual(self.within(20, sameness, flat(one_state(threes)), flat(one_state(threes)), 4, 9)[0], "same")

    def test_powers(self):
        for rooms, degree, fits in (((1, 1), 4, True), ((1, 2), 4, True), ((2, 2), 4, False), ((2, 3), 3, True), ((3, 3), 3, False),
                                    ((4, 5), 2, True), ((5, 5), 2, False), ((8, 8), 1, True)):
            one, other = flat(T, rooms[0]), flat(T, rooms[1])
            for function in (equations_of, sameness):
                if fits:
                    self.within(20, function, one, other, degree, 9)
                else:
                    self.too_many(60, function, one, other, degree, 9)
        many = (("a", 0), ("b", 0), ("c", 0), ("d", 1), ("e", 1), ("f", 1))
        self.too_many(3000, sameness, flat(one_state(many), 8), flat(one_state(many), 8), 4, 9)

    def test_digits(self):
        high = told_by([poly((10 ** 40,))], [power(X, 7)])
        self.assertEqual(sameness(high, flat(T), 1, 3), ("parted", E))
        higher = told_by([poly((10 ** 40,))], [power(X, 8)])
        for function in (equations_of, sameness):
            self.assertIsNotNone(function(higher, higher, 1, 2))
            self.too_many(2000, function, higher, higher, 1, 3)
            self.too_many(2000, function, flat(T), higher, 1, 3)
            # Too many powers count behind it.
            self.too_many(2000, function, higher, flat(T, 8), 4, 3)
            self.too_many(60, function, higher, flat(T, 8), 4, 2)
        # An end that is too long does no harm.
        long_end = told_by([poly((10 ** 40,))], [power(X, 7)], power(X, 40))
        self.assertEqual(sameness(long_end, high, 1, 3), ("parted", E))

    def test_degrees_and_sizes_at_their_bounds(self):
        for degree in (1, 4):
            for size in (1, 9):
                self.assertIn(self.within(20, sameness, ONE, ONE, degree, size)[0], ("same", "open"))
        self.assertEqual(sameness(ONE, ONE, 4, 9)[0], "same")
        self.assertEqual(sameness(ONE, ONE, 1, 9)[0], "same")

    def test_factors_beyond_the_bounds(self):
        kinds = (("a", 0), ("b", 0), ("c", 0), ("d", 0), ("e", 0), ("s", 1))

        def reader_of(row):
            return numbers_of(one_state(kinds), 1, lambda name, states: (row if states else poly(("abcde".index(name) + 2,)),),
                              lambda state: poly((1, X)))
        # With the degree n, x ** n - z ** n is an equation: its factor for x ** (n k) - z ** (n k) has the degree n k - n.
        for degree, many, wanted in ((1, 40, "same"), (2, 21, "same"), (2, 22, "open"), (3, 14, "same"), (3, 15, "open"),
                                     (4, 11, "same"), (4, 12, "open"), (1, 1, "same")):
            reader = reader_of(power(X, many))
            self.assertEqual(sameness(reader, reader, degree, 2)[0], wanted, (degree, many))
        # The factor for a sum of powers has as many terms as all of them are together.
        for last, wanted in ((15, "same"), (16, "open")):
            chosen = list(range(30, 41)) + [last]
            self.assertEqual(sum(chosen), 400 if last == 15 else 401)
            reader = reader_of(poly(*[(1,) + (X,) * number for number in chosen]))
            self.assertEqual(sameness(reader, reader, 1, 2)[0], wanted)

    def test_factors_of_just_forty(self):
        # One has x, r, w, other y, z, s: always x is y z, r is s s, w is s. What is put in for x - y z has the
        # first term y z s ** 40, or s ** 41.
        kinds = (("a", 0), ("b", 0), ("c", 0), ("d", 0), ("e", 0), ("s", 1))
        r, w = (0, 1), (0, 2)
        leaves = {"a": (2, 3, 5), "b": (3, 7, 2), "c": (11, 2, 3), "d": (5, 13, 7), "e": (1, 17, 11)}
        for odd, wanted in ((0, "same"), (1, "open")):
            def first(name, states):
                if states:
                    return poly((1, X) + (w,) * odd + (r,) * 20), poly((4, r)), poly((2, w))
                y, z, s = leaves[name]
                return poly((y * z,)), poly((s * s,)), poly((s,))

            def second(name, states):
                if states:
                    return poly((1, X) + (Z,) * 20), poly((1, Y) + (Z,) * (20 + odd)), poly((2, Z))
                return tuple(poly((number,)) for number in leaves[name])
            one = numbers_of(one_state(kinds), 3, first, lambda state: poly((1, X)))
            other = numbers_of(one_state(kinds), 3, second, lambda state: poly((1, X, Y)))
            told = sameness(one, other, 2, 9)
            self.assertEqual(told[0], wanted)
            if wanted == "same":
                self.assertIs(is_paper(one, other, told[1]), True)
                self.assertEqual(max(degree_of(part[2]) for one_sum in told[1][2][5][0] for part in one_sum[1]), 40)

    def test_a_rest_of_one_term(self):
        # The product of both rooms is 0 everywhere: but no equation of the degree 1 says so.
        kinds = (("a", 0), ("b", 0), ("c", 0), ("s", 1))
        leaves = {"a": ((), ()), "b": (poly((1,)), ()), "c": ((), poly((1,)))}
        one = numbers_of(one_state(kinds), 2, lambda name, states: leaves.get(name, (poly((1, X)), poly((1, Y)))),
                         lambda state: poly((1, X, Y)))
        other = numbers_of(one_state(kinds), 1, lambda name, states: ((),), lambda state: ())
        self.assertEqual(sameness(one, other, 1, 3), ("open",))
        self.assertEqual(sameness(one, other, 2, 3)[0], "same")

    def test_long_readers_within_seconds(self):
        choose = chance(3)
        terms = {tuple(sorted((0, 0) for _ in range(choose.randint(0, 40)))) for _ in range(60)}
        steep = told_by([poly((3,))], [poly(*[(choose.randint(1, 10 ** 40),) + some for some in terms])])
        self.within(30, sameness, steep, steep, 4, 2)
        twos = (("a", 0), ("b", 0), ("f", 2))
        grid = [(1,) + (X,) * first + ((1, 0),) * second for first in range(20) for second in range(20)]
        wide = numbers_of(one_state(twos), 1, lambda name, states: (poly(*grid) if states else poly(({"a": 1, "b": -1}[name],)),),
                          lambda state: poly((1, X)))
        for degree in (1, 2, 4):
            self.within(30, sameness, wide, wide, degree, 3)
        kinds = (("a", 0), ("b", 0), ("c", 0), ("d", 0), ("e", 0), ("f", 2))
        some = numbers_of(one_state(kinds), 2, lambda name, states: (poly(("abcde".index(name) ** 2 + 10 ** 40,)) if not states else
                          poly((10 ** 40, X, (1, 0)), (3, Y)), poly((1, (1, 0), (0, 0)), (7,)) if states else poly((5,))),
                          lambda state: poly((1, X)))
        self.within(60, sameness, some, with_turned_rooms(choose, some), 3, 6)
        self.within(60, equations_of, some, some, 3, 6)


class Chance(Case):
    def test_all_by_going_through_trees(self):
        choose = chance(95)
        told = {"same": 0, "parted": 0, "open": 0}
        for _ in range(220):
            kinds = random_kinds(choose)
            one = random_numbers(choose, kinds, choose.random() < 0.4)
            other = random_numbers(choose, kinds) if choose.random() < 0.4 else with_turned_rooms(choose, one)
            degree, size = choose.randint(1, 2), choose.randint(1, 4)
            pairs = met(one, other)
            if sum(len(pairs) ** rank for _, rank in kinds) > 80:
                continue
            every = every_tree(kinds, size)
            equations = equations_of(one, other, degree, size)
            self.check_equations(one, other, degree, pairs, every, equations)
            if max([len(some) for some in equations]) * max([rank for _, rank in kinds]) > 60:
                continue
            told[self.check_sameness(one, other, degree, size, pairs, every)] += 1
        self.assertTrue(min(told.values()) > 10, told)

    def check_equations(self, one, other, degree, pairs, every, equations):
        rooms = tuple((0, room) for room in range(one[2] + other[2]))
        powers = powers_to(rooms, degree)
        points = {pair: [] for pair in pairs}
        for tree in every:
            pair = (plain_state(one[1], tree), plain_state(other[1], tree))
            point = plain_worths(one, tree) + plain_worths(other, tree)
            if point not in points[pair]:
                points[pair].append(point)
        self.assertEqual(len(equations), len(pairs))
        for pair, told in zip(pairs, equations):
            rows = tuple(tuple(value_at(((some, 1),), tuple(zip(rooms, point))) for some in powers) for point in points[pair][:60])
            wanted = [tuple(sorted((some, number) for some, number in zip(powers, row) if number)) for row in across(len(powers), rows)]
            if len(points[pair]) <= 60:
                self.assertEqual(list(told), wanted)

    def check_sameness(self, one, other, degree, size, pairs, every):
        told = sameness(one, other, degree, size)
        parting = [tree for tree in every if plain_told(one, tree) != plain_told(other, tree)]
        if parting:
            self.assertEqual(told, ("parted", parting[0]))
            return "parted"
        paper = self.by_divisions(one, other, pairs, equations_of(one, other, degree, size))
        self.assertEqual(told, ("open",) if paper is None else ("same", paper))
        if paper is not None:
            self.assertIs(is_paper(one, other, paper), True)
            self.assertTrue(multiplies_out(one, other, pairs, paper))
        return told[0]

    def by_divisions(self, one, other, pairs, equations):
        """The paper that divided makes, None if there is none."""
        rows = [[] for _ in one[1][1]]
        for kind, states, goal, worths in rows_of(one, other, pairs):
            sums = [self.sum_for(put(equation, worths), states, equations) for equation in equations[goal]]
            if None in sums:
                return None
            rows[kind].append(tuple(sums))
        ends = []
        for pair, (first, second) in enumerate(pairs):
            if (one[4][first] is None) != (other[4][second] is None):
                return None
            if one[4][first] is None:
                ends.append(None)
            else:
                terms = plus(dict(one[4][first]), moved(other[4][second], one[2]), -1)
                ends.append(self.sum_for(terms, (pair,), equations))
        if any(end is None and one[4][pairs[pair][0]] is not None for pair, end in enumerate(ends)):
            return None
        return ("paper", equations, tuple(tuple(row) for row in rows), tuple(ends))

    def sum_for(self, terms, states, equations):
        names = [(child, place) for child, state in enumerate(states) for place in range(len(equations[state]))]
        several = [tuple(sorted(for_child(equations[states[child]][place], child).items())) for child, place in names]
        polynomial = tuple(sorted(terms.items()))
        self.assertTrue(is_polynomial(polynomial))
        many, parts, rest = divided(polynomial, tuple(several))
        if rest != ():
            return None
        return many, tuple((child, place, part) for (child, place), part in zip(names, parts) if part)


class Never(Case):
    def test_never_same_with_one_size_and_parted_with_another(self):
        choose = chance(97)
        for _ in range(60):
            kinds = random_kinds(choose)
            one, other = random_numbers(choose, kinds), random_numbers(choose, kinds)
            words = set()
            for degree, size in itertools.product((1, 2), (1, 3, 4)):
                try:
                    words.add(sameness(one, other, degree, size)[0])
                except TooMany:
                    continue
            self.assertFalse({"same", "parted"} <= words)
