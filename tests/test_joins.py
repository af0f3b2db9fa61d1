from helpers import (E, EF, EFS, ES, FOUR_HUNDRED, FOUR_THREES, ODD, THREE_THREES, Case, balanced, chance, comb,
                     cycle, every_tree, exchanged, nodes_in, of_parts, one_state, plain_state, random_kinds,
                     random_set, set_of)
from samewriting.errors import BadKinds, BadSet, BadTree, OtherKinds, TooMany
from samewriting.joins import alone, both, contrary, either, inside, least
from samewriting.sets import in_order, is_in, is_set, least_trees, state_of

HAND = ("set", EF, 2, ((0,), (1, 1, 1, 0)), (1,))
F = ("f", E, E)


def tail(many, takes=()):
    """The set that counts nodes up to many states, and stays at the last one."""
    return set_of(ES, many, lambda name, states: 0 if name == "e" else min(states[0] + 1, many - 1), takes)


class Made(Case):
    def test_contrary(self):
        self.assertEqual(contrary(HAND), ("set", EF, 2, ((0,), (1, 1, 1, 0)), (0,)))
        self.assertEqual(contrary(one_state(EF)), ("set", EF, 1, ((0,), (0,)), ()))
        self.assertEqual(contrary(contrary(cycle(6, (1, 3, 5)))), cycle(2, (1,)))

    def test_both_and_either(self):
        self.assertEqual(both(cycle(2, (0,)), cycle(3, (0,))), least(cycle(6, (0,))))
        self.assertEqual(either(cycle(2, (1,)), cycle(4, (0,))), least(cycle(4, (0, 1, 3))))
        self.assertEqual(both(HAND, contrary(HAND)), ("set", EF, 1, ((0,), (0,)), ()))
        self.assertEqual(either(HAND, contrary(HAND)), one_state(EF))

    def test_alone(self):
        told = alone(EF, F)
        self.assertEqual(in_order(told, 12), (F,))
        self.assertEqual(told, ("set", EF, 3, ((0,), (1, 2, 2, 2, 2, 2, 2, 2, 2)), (1,)))
        self.assertEqual(in_order(alone(ES, comb(5)), 12), (comb(5),))
        self.assertEqual(alone((("e", 0),), E), ("set", (("e", 0),), 1, ((0,),), (0,)))
        self.assertEqual(alone((("e", 0), ("g", 0)), E), ("set", (("e", 0), ("g", 0)), 2, ((0,), (1,)), (0,)))

    def test_inside(self):
        self.assertIsNone(inside(cycle(6, (1, 3)), cycle(2, (1,))))
        self.assertEqual(inside(cycle(2, (1,)), cycle(6, (1, 3))), comb(5))
        self.assertEqual(inside(cycle(2, (1,)), cycle(6, (1, 5))), comb(3))
        self.assertEqual(inside(one_state(EF), HAND), E)
        self.assertIsNone(inside(HAND, one_state(EF)))

    def test_least(self):
        self.assertEqual(least(HAND), HAND)
        self.assertEqual(least(cycle(6, (0, 2, 4))), ("set", ES, 2, ((0,), (1, 0)), (0,)))
        # States that no tree has go, and states are numbered as they are met.
        self.assertEqual(least(("set", ES, 3, ((2,), (0, 1, 1)), (1,))), ("set", ES, 2, ((0,), (1, 1)), (1,)))
        self.assertEqual(least(("set", ES, 3, ((2,), (0, 1, 1)), ())), ("set", ES, 1, ((0,), (0,)), ()))

    def test_walk_goes_round_by_round(self):
        kinds = (("a", 1), ("b", 0), ("c", 1))
        # b is 0; a of 0 is new, c of 0 is new; then a of 1, a of 2, c of 1, c of 2.
        rule = {("b", ()): 3, ("a", (3,)): 5, ("c", (3,)): 0, ("a", (5,)): 1, ("a", (0,)): 2, ("c", (5,)): 4}
        trees = set_of(kinds, 7, lambda name, states: rule.get((name, states), 6), (1, 4, 5))
        told = least(trees)
        named = [state_of(told, tree) for tree in (("b",), ("a", ("b",)), ("c", ("b",)), ("a", ("a", ("b",))))]
        self.assertEqual(named, [0, 1, 2, 3])
        self.assertEqual(least(told), told)


class Errors(Case):
    def test_what_is_no_set(self):
        for value in ODD + (HAND[:4], exchanged(HAND, (2,), True)):
            self.raises(BadSet, contrary, value)
            self.raises(BadSet, least, value)
            for function in (both, either, inside):
                self.raises(BadSet, function, value, HAND)
                self.raises(BadSet, function, HAND, value)
                self.raises(BadSet, function, cycle(60), value)

    def test_other_kinds(self):
        for function in (both, either, inside):
            self.raises(OtherKinds, function, HAND, cycle(2))
            self.raises(OtherKinds, function, cycle(60), set_of((("e", 0), ("t", 1)), 59, lambda name, states: 0))

    def test_alone(self):
        self.raises(BadKinds, alone, list(EF), None)
        for tree in (None, "e", comb(3), ["e"]):
            self.raises(BadTree, alone, EF, tree)

    def test_sixty_pairs(self):
        for function in (both, either, inside):
            # Of 4 and 15 states all 60 pairs are met; of 7 and 9 there are 63.
            self.within(10, function, cycle(4), cycle(15))
            self.too_many(60, function, cycle(7), cycle(9))
            # A tail of 30 states, and then 31 that go round.
            self.too_many(60, function, tail(31), cycle(31))
        self.assertEqual(both(cycle(4, (1,)), cycle(15, (1,)))[2], 60)
        self.assertEqual(least_trees(both(cycle(4, (0,)), cycle(15, (0,))))[59], comb(59))
        self.assertEqual(inside(cycle(4, (3,)), contrary(cycle(15, (14,)))), comb(59))
        self.assertEqual(both(tail(60, (59,)), tail(60, (59,)))[2], 60)
        # A tail of 30 states and then 30, or 31, that go round.
        self.assertEqual(both(tail(31, (30,)), cycle(30, (29,)))[2], 60)

    def test_too_many_goals(self):
        kinds = (("e", 0), ("f", 3), ("s", 1))
        three = set_of(kinds, 3, lambda name, states: (1 + sum(states)) % 3, (0,))
        five = set_of(kinds, 5, lambda name, states: (1 + sum(states)) % 5, (0,))
        four = set_of(kinds, 4, lambda name, states: (1 + sum(states)) % 4, (0,))
        self.assertEqual(both(three, five)[2], 15)
        for function in (both, either, inside):
            self.too_many(4000, function, four, five)
        # As near to 4000 as can be: 11 pairs with 3996 goals, 10 with 4001.
        eleven = set_of(THREE_THREES, 11, lambda name, states: (1 + sum(states)) % 11 if states else 0, (0,))
        for function in (both, either, inside):
            self.within(20, function, eleven, one_state(THREE_THREES))
            self.too_many(4000, function, cycle(2, (0,), FOUR_THREES), cycle(5, (0,), FOUR_THREES))
        self.assertEqual(both(eleven, one_state(THREE_THREES))[2], 11)
        # 9 times 8 is more than 60: this counts first.
        nine = set_of(kinds, 9, lambda name, states: (1 + sum(states)) % 9, (0,))
        eight = set_of(kinds, 8, lambda name, states: (1 + sum(states)) % 8, (0,))
        self.too_many(60, both, nine, eight)

    def test_parts_alone(self):
        self.assertEqual(alone(ES, comb(58))[2], 60)
        self.too_many(60, alone, ES, comb(59))
        threes = (("e", 0), ("f", 3))

        def tower(levels):
            tree = E
            for _ in range(levels):
                tree = ("f", tree, E, E)
            return tree

        twice = (("e", 0), ("f", 2), ("g", 2))

        def low(levels):
            tree = E
            for _ in range(levels):
                tree = ("f", tree, E)
            return tree

        # 43 states have 3699 goals, 44 have 3873, 45 have 4051.
        self.assertEqual(alone(twice, low(42))[2], 44)
        self.too_many(4000, alone, twice, low(44))
        self.too_many(60, alone, twice, low(59))
        self.assertEqual(alone(threes, tower(4))[2], 6)
        # As near to 4000 as can be: 3996 and 4001 goals.
        self.assertEqual(alone(THREE_THREES, tower(9))[2], 11)
        self.too_many(4000, alone, FOUR_THREES, tower(8))
        self.assertEqual(alone(FOUR_THREES, tower(7))[2], 9)

    def test_inside_tells_no_tree_too_large(self):
        def doubling(many):
            return set_of(EF, many, lambda name, states: 0 if name == "e" else min(states[0] + 1, many - 1)
                          if states[0] == states[1] else 0, (many - 1,))
        self.assertEqual(inside(doubling(8), contrary(one_state(EF))), balanced(8))
        self.too_many(400, inside, doubling(9), contrary(one_state(EF)))
        self.too_many(400, inside, doubling(60), contrary(one_state(EF)))
        # What is not told may be too large.
        self.assertEqual(inside(doubling(9)[:4] + ((0, 8),), contrary(one_state(EF))), E)
        nothing = contrary(one_state(EFS))
        self.assertEqual(nodes_in(inside(of_parts(EFS, FOUR_HUNDRED), nothing)), 400)
        self.too_many(400, inside, of_parts(EFS, FOUR_HUNDRED + (("s", 10),)), nothing)

    def test_all_goals_within_seconds(self):
        choose = chance(3)
        kinds = (("e", 0), ("f", 2), ("g", 1))
        wide = set_of(kinds, 60, lambda name, states: choose.randrange(60), (3, 5, 7))
        chain = set_of(kinds, 60, lambda name, states: 0 if name != "f" else min(59, min(states) + 1), (59,))
        for trees in (wide, chain):
            for function in (least, contrary):
                self.within(20, function, trees)
            for function in (both, either, inside):
                self.within(20, function, trees, trees)
        self.assertIsNone(inside(wide, wide))


class Chance(Case):
    def test_all_by_going_through_trees(self):
        choose = chance(21)
        for _ in range(150):
            kinds = random_kinds(choose)
            one = random_set(choose, kinds, 4)
            other = random_set(choose, kinds, 3)
            every = every_tree(kinds, 5 if len(kinds) < 4 else 4)
            in_one = [plain_state(one, tree) in one[4] for tree in every]
            in_other = [plain_state(other, tree) in other[4] for tree in every]
            self.check_told(every, contrary(one), [not x for x in in_one])
            self.check_told(every, least(one), in_one)
            self.assertEqual(contrary(contrary(one)), least(one))
            try:
                self.check_told(every, both(one, other), [x and y for x, y in zip(in_one, in_other)])
                self.check_told(every, either(one, other), [x or y for x, y in zip(in_one, in_other)])
                apart = [tree for tree, x, y in zip(every, in_one, in_other) if x and not y]
                told = inside(one, other)
            except TooMany as error:
                self.assertEqual(error.most, 4000)
                continue
            if apart:
                self.assertEqual(told, apart[0])
            else:
                self.assertTrue(told is None or nodes_in(told) > nodes_in(every[-1]))
                if told is None:
                    self.assertEqual(both(one, other), least(one))
            tree = choose.choice(every)
            self.check_told(every, alone(kinds, tree), [known == tree for known in every])

    def check_told(self, every, trees, wanted):
        self.assertTrue(is_set(trees))
        self.assertEqual([is_in(trees, tree) for tree in every], wanted)
        self.assertEqual(least(trees), trees)

    def test_numbering_hangs_on_nothing(self):
        choose = chance(5)
        for _ in range(100):
            kinds = random_kinds(choose)
            trees = random_set(choose, kinds, 4)
            order = list(range(trees[2]))
            choose.shuffle(order)
            back = [order.index(state) for state in range(trees[2])]

            def rule(name, states):
                row = trees[3][[pair[0] for pair in kinds].index(name)]
                place = 0
                for state in states:
                    place = place * trees[2] + back[state]
                return order[row[place]]

            other = set_of(kinds, trees[2], rule, sorted(order[state] for state in trees[4]))
            self.assertEqual(least(other), least(trees))
