import itertools

from helpers import (E, EF, EFS, ES, FOUR_HUNDRED, FOUR_THREES, ODD, THREE_THREES, Case, balanced, chance, comb,
                     cycle, every_tree, exchanged, left_comb, nodes_in, of_parts, one_state, plain_state,
                     random_kinds, random_set, set_of, wrong_kinds, wrong_lengths)
from samewriting.errors import BadNumber, BadSet, BadTree, TooMany
from samewriting.sets import (in_order, is_finite, is_in, is_set, least_in, least_trees, number_in, state_of)

HAND = ("set", EF, 2, ((0,), (1, 1, 1, 0)), (1,))
F = ("f", E, E)


def doubling(many):
    """State k is that of f of two trees of state k - 1: the least tree of state k has 2 ** (k + 1) - 1 nodes."""
    return set_of(EF, many, lambda name, states: 0 if name == "e" else min(states[0] + 1, many - 1)
                  if states[0] == states[1] else 0, (many - 1,))


class IsSet(Case):
    def test_right_ones(self):
        for trees in (HAND, one_state(EFS), cycle(60), cycle(7, (0, 3)), doubling(60)):
            self.assertIs(is_set(trees), True)
        self.assertIs(is_set(HAND[:4] + ((),)), True)
        self.assertIs(is_set(HAND[:4] + ((0, 1),)), True)

    def test_bounds(self):
        self.assertIs(is_set(cycle(60)), True)
        self.assertIs(is_set(cycle(61)), False)
        self.assertIs(is_set(("set", ES, 0, ((), ()), ())), False)

        def made(kinds, many):
            return set_of(kinds, many, lambda name, states: 0)

        wide = (("a", 0), ("b", 2), ("c", 1), ("d", 1), ("e", 1), ("f", 1))
        self.assertIs(is_set(made(wide, 60)), True)
        # 15 ** 3 + 2 * 15 ** 2 + 15 + 1 is 3841, and 16 ** 3 is 4096.
        self.assertIs(is_set(made((("a", 0), ("b", 3), ("c", 2), ("d", 2), ("e", 1)), 15)), True)
        self.assertIs(is_set(made((("a", 0), ("b", 3)), 16)), False)
        # As near to 4000 as can be: 3 * 11 ** 3 + 3 and 4 * 10 ** 3 + 1.
        self.assertIs(is_set(made(THREE_THREES, 11)), True)
        self.assertIs(is_set(made(FOUR_THREES, 10)), False)
        # 2 * 44 ** 2 + 1 is 3873, and with 45 it is 4051; with three further kinds 44 have 4005, 43 have 3828.
        self.assertIs(is_set(made((("a", 0), ("b", 2), ("c", 2)), 44)), True)
        self.assertIs(is_set(made((("a", 0), ("b", 2), ("c", 2)), 45)), False)
        twos = (("a", 0), ("b", 2), ("c", 2), ("d", 1), ("e", 1), ("f", 1))
        self.assertIs(is_set(made(twos, 43)), True)
        self.assertIs(is_set(made(twos, 44)), False)
        # 5 * 28 ** 2 + 1 is 3921, and with 29 it is 4206.
        fives = (("a", 0), ("b", 2), ("c", 2), ("d", 2), ("e", 2), ("f", 2))
        self.assertIs(is_set(made(fives, 28)), True)
        self.assertIs(is_set(made(fives, 29)), False)

    def test_wrong_ones(self):
        wrong = [value for value in ODD] + [
            ("sets",) + HAND[1:], list(HAND), HAND + ((),), HAND[:4],
            ("set", EF, 2, ((0,), (1, 1, 1, 2)), (1,)), ("set", EF, 2, ((0,), (1, 1, 1, -1)), (1,)),
            ("set", EF, 2, ((0,), (1, 1, 1, True)), (1,)), ("set", EF, 2, ((False,), (1, 1, 1, 0)), (1,)),
            ("set", EF, 2, ((0,), (1, 1, 1)), (1,)), ("set", EF, 2, ((0, 0), (1, 1, 1, 0)), (1,)),
            ("set", EF, 2, ((0,), [1, 1, 1, 0]), (1,)), ("set", EF, 2, [(0,), (1, 1, 1, 0)], (1,)),
            ("set", EF, 2, ((0,),), (1,)), ("set", EF, 2, ((1, 1, 1, 0), (0,)), (1,)),
            ("set", EF, True, ((0,), (0,)), ()), ("set", EF, 2, HAND[3], (2,)), ("set", EF, 2, HAND[3], (1, 0)),
            ("set", EF, 2, HAND[3], (1, 1)), ("set", EF, 2, HAND[3], [1]), ("set", EF, 2, HAND[3], (True,)),
            ("set", EF, 2, HAND[3], 1), ("set", list(EF), 2, HAND[3], (1,)), ("set", EF, 3, HAND[3], (1,)),
            ("set", (("f", 2),), 1, ((0,),), ())]
        self.takes_none_of(is_set, wrong)
        self.takes_none_of(is_set, wrong_kinds(HAND))

    def test_one_item_more_or_less(self):
        for path, changed in wrong_lengths(HAND):
            # Only takes may have another length: (), and not a state twice.
            self.assertIs(is_set(changed), changed == HAND[:4] + ((),), changed)

    def test_all_functions_refuse_what_is_none(self):
        for value in ODD + (HAND[:4], exchanged(HAND, (4,), [1])):
            self.raises(BadSet, state_of, value, None)
            self.raises(BadSet, is_in, value, None)
            for function in (least_trees, least_in, is_finite):
                self.raises(BadSet, function, value)
            self.raises(BadSet, in_order, value, 0)
            self.raises(BadSet, number_in, value, 0)


class ByHand(Case):
    def test_the_example(self):
        self.assertEqual(state_of(HAND, F), 1)
        self.assertEqual(state_of(HAND, ("f", F, F)), 0)
        self.assertEqual(state_of(HAND, ("f", F, E)), 1)
        self.assertEqual(least_in(HAND), F)
        self.assertIs(is_in(HAND, F), True)
        self.assertIs(is_in(HAND, E), False)
        self.assertEqual(least_trees(HAND), (E, F))
        self.assertIs(is_finite(HAND), False)

    def test_bad_trees(self):
        for tree in (None, "e", ["e"], ("g",), ("f", E), comb(2), left_comb(60)):
            self.raises(BadTree, state_of, HAND, tree)
            self.raises(BadTree, is_in, HAND, tree)

    def test_bad_numbers(self):
        for many in (0, 13, -1, True, None, "1", 1.0):
            self.raises(BadNumber, in_order, HAND, many)
        for many in (0, 61, -1, True, None, "1", 1.0):
            self.raises(BadNumber, number_in, HAND, many)

    def test_no_trees(self):
        nothing = HAND[:4] + ((),)
        self.assertIsNone(least_in(nothing))
        self.assertEqual(in_order(nothing, 12), ())
        self.assertEqual(number_in(nothing, 5), 0)
        self.assertIs(is_finite(nothing), True)
        unmet = set_of(ES, 3, lambda name, states: 0, (1, 2))
        self.assertEqual(least_trees(unmet), (E, None, None))
        self.assertIsNone(least_in(unmet))
        self.assertIs(is_finite(unmet), True)

    def test_finite(self):
        three = set_of(ES, 4, lambda name, states: 0 if name == "e" else min(states[0] + 1, 3), (0, 2))
        self.assertIs(is_finite(three), True)
        self.assertEqual(in_order(three, 12), (comb(0), comb(2)))
        self.assertEqual([number_in(three, many) for many in (1, 2, 3, 4)], [1, 0, 1, 0])
        self.assertIs(is_finite(three[:4] + ((3,),)), False)
        # A state that goes round, but that no tree has.
        apart = set_of(ES, 3, lambda name, states: 0 if name == "e" else (1, 1, 2)[states[0]], (2,))
        self.assertIs(is_finite(apart), True)
        # A state that goes round and is met, but leads nowhere.
        self.assertIs(is_finite(apart[:4] + ((0,),)), True)
        self.assertIs(is_finite(apart[:4] + ((1,),)), False)


class Bounds(Case):
    def test_least_trees_of_many_nodes(self):
        trees = doubling(8)
        self.assertEqual(least_trees(trees)[7], balanced(8))
        self.assertEqual(nodes_in(least_in(trees)), 255)
        trees = doubling(9)
        self.too_many(400, least_trees, trees)
        self.too_many(400, least_in, trees)
        self.too_many(400, in_order, trees, 1)
        self.assertEqual(least_in(trees[:4] + ((7,),)), balanced(8))
        self.assertEqual(in_order(trees[:4] + ((0, 1),), 2), (E, F))

    def test_just_four_hundred_nodes(self):
        trees = of_parts(EFS, FOUR_HUNDRED)
        tree = least_in(trees)
        self.assertEqual(nodes_in(tree), 400)
        self.assertEqual(in_order(trees, 12), (tree,))
        self.assertIn(tree, least_trees(trees[:3] + (trees[3],) + ((),)))
        self.assertIs(is_in(trees, tree), True)
        more = of_parts(EFS, FOUR_HUNDRED + (("s", 10),))
        for function, passed in ((least_in, ()), (least_trees, ()), (in_order, (1,))):
            self.too_many(400, function, more, *passed)
        self.assertIs(is_finite(more), True)
        # What is not asked for may be too large.
        self.assertEqual(in_order(more[:4] + ((0, 11),), 1), (E,))
        self.too_many(400, in_order, more[:4] + ((0, 11),), 2)

    def test_sets_answer_where_no_tree_can_be_told(self):
        trees = doubling(60)
        self.too_many(400, least_trees, trees)
        self.too_many(400, least_in, trees)
        self.assertIs(is_in(trees, balanced(8)), False)
        self.assertEqual(state_of(trees, balanced(8)), 7)
        self.assertIs(is_finite(trees), False)
        self.assertEqual(number_in(trees, 59), 0)
        self.assertEqual(number_in(doubling(5), 31), 1)

    def test_deep_trees(self):
        trees = cycle(60, (59,))
        self.assertEqual(least_trees(trees)[59], comb(59))
        self.assertEqual(in_order(trees, 1), (comb(59),))
        self.assertEqual(least_in(trees), comb(59))
        self.too_many(60, in_order, trees, 2)
        self.too_many(60, in_order, trees, 6)
        # The seventh tree has more than 400 nodes, the second is too deep: 400 comes first.
        self.too_many(400, in_order, trees, 7)
        self.assertEqual(in_order(cycle(30, (29,)), 2), (comb(29), comb(59)))
        self.too_many(60, in_order, cycle(30, (29,)), 3)
        self.assertEqual(len(in_order(cycle(30, (0, 29)), 4)), 4)
        self.too_many(60, in_order, cycle(30, (0, 29)), 5)
        self.assertEqual(number_in(trees, 60), 1)
        self.assertEqual(number_in(trees, 59), 0)
        self.assertIs(is_finite(trees), False)

    def test_twelve_trees(self):
        told = in_order(one_state(EF), 12)
        self.assertEqual(told, tuple(every_tree(EF, 9))[:12])
        self.assertEqual(len(told), 12)
        self.assertEqual(in_order(one_state(EF), 1), (E,))
        self.assertEqual(in_order(HAND, 1), (F,))

    def test_sixty_nodes(self):
        counts = [number_in(one_state(EF), many) for many in (1, 59, 60)]
        self.assertEqual(counts, [1, 1002242216651368, 0])

    def test_all_goals_within_seconds(self):
        choose = chance(3)
        kinds = (("e", 0), ("f", 2), ("g", 1))
        wide = set_of(kinds, 60, lambda name, states: choose.randrange(60), (3, 5, 7))
        threes = set_of((("a", 0), ("b", 0), ("f", 3)), 15, lambda name, states: choose.randrange(15), (3, 7))
        for trees in (wide, threes, doubling(60)):
            self.within(20, least_trees, trees)
            self.within(20, least_in, trees)
            self.within(20, in_order, trees, 12)
            self.within(20, number_in, trees, 60)
            self.within(20, is_finite, trees)


class Chance(Case):
    def test_all_functions_by_going_through_trees(self):
        choose = chance(8)
        for _ in range(150):
            kinds = random_kinds(choose)
            most = 6 if len(kinds) < 4 else 4
            trees = random_set(choose, kinds, 5)
            if not is_set(trees):
                continue
            every = every_tree(kinds, most)
            states = [plain_state(trees, tree) for tree in every]
            inside = [tree for tree, state in zip(every, states) if state in trees[4]]
            for tree, state in list(zip(every, states))[:60]:
                self.assertEqual(state_of(trees, tree), state)
                self.assertEqual(is_in(trees, tree), state in trees[4])
            for state, tree in enumerate(least_trees(trees)):
                if state in states:
                    self.assertEqual(tree, every[states.index(state)])
                elif tree is not None:
                    self.assertGreater(nodes_in(tree), most)
                    self.assertEqual(plain_state(trees, tree), state)
            for many in (1, 2, 12):
                self.check_order(trees, many, inside, most)
            for many in range(1, most + 1):
                self.assertEqual(number_in(trees, many), len([tree for tree in inside if nodes_in(tree) == many]))
            self.check_finite(trees)

    def check_order(self, trees, many, inside, most):
        try:
            told = in_order(trees, many)
        except TooMany:
            return
        known = min(many, len(inside))
        self.assertEqual(told[:known], tuple(inside[:known]))
        if many > known:
            self.assertTrue(all(nodes_in(tree) > most for tree in told[known:]))
        self.assertEqual(len(set(told)), len(told))

    def check_finite(self, trees):
        # The states that have trees of just so many levels, and those of fewer: an endless set has trees far down.
        at_most = set()
        exact = set()
        deep = False
        for level in range(1, 3 * trees[2] + 1):
            fresh = set()
            for (name, rank), row in zip(trees[1], trees[3]):
                for states in itertools.product(range(trees[2]), repeat=rank):
                    if level == 1 and not states or states and set(states) <= at_most and set(states) & exact:
                        place = 0
                        for state in states:
                            place = place * trees[2] + state
                        fresh.add(row[place])
            exact = fresh
            at_most = at_most | fresh
            deep = deep or level > trees[2] and bool(exact & set(trees[4]))
        self.assertEqual(is_finite(trees), not deep)
