from helpers import (E, EF, EFS, ES, ODD, Case, balanced, chance, comb, every_tree, left_comb, levels_in, nodes_in,
                     random_kinds, wrong_kinds)
from samewriting.errors import BadKinds, BadNumber, BadPath, BadTree
from samewriting.trees import count, depth, is_kinds, is_tree, part, size, trees_of, with_part

SIX = (("a", 0), ("b", 1), ("c", 2), ("d", 3), ("e", 0), ("f", 3))
BAD_KINDS = [value for value in ODD] + [
    [("e", 0)], (["e", 0],), (("e",),), (("e", 0, 0),), (("e", 4),), (("e", 0), ("f", 4)), (("e", 0), ("f", -1)), (("e", -1),), (("e", True),), (("e", False),),
    (("e", "0"),), (("e", 1),), (("e", 1), ("f", 2)), (("f", 2), ("e", 0)), (("e", 0), ("e", 0)), (("e", 0), ("e", 1)),
    (("E", 0),), (("if", 0),), (("", 0),), (("abcdefghi", 0),), ((0, 0),), SIX + (("g", 0),), {("e", 0)}, {"e": 0}]


class Kinds(Case):
    def test_right_ones(self):
        for kinds in (EF, ES, SIX, (("e", 0),), (("a", 3), ("b", 0))):
            self.assertIs(is_kinds(kinds), True)

    def test_wrong_ones(self):
        self.takes_none_of(is_kinds, BAD_KINDS)
        self.takes_none_of(is_kinds, wrong_kinds(SIX))

    def test_all_functions_refuse_them_first(self):
        for kinds in BAD_KINDS:
            self.raises(BadKinds, is_tree, kinds, E)
            self.raises(BadKinds, size, kinds, None)
            self.raises(BadKinds, depth, kinds, None)
            self.raises(BadKinds, part, kinds, None, None)
            self.raises(BadKinds, with_part, kinds, None, None, None)
            self.raises(BadKinds, trees_of, kinds, None)
            self.raises(BadKinds, count, kinds, None)


class Trees(Case):
    def test_right_ones(self):
        for tree in (E, ("f", E, E), ("s", E), ("f", ("s", E), ("f", E, E))):
            self.assertIs(is_tree(EFS, tree), True)

    def test_wrong_ones(self):
        wrong = [value for value in ODD] + [
            "e", ["e"], ("e", E), ("f", E), ("f", E, E, E), ("f", E, ["e"]), ("f", E, "e"), ("g",), ("s", ()), (E,),
            ("f", E, None), (("e",), E), ("s", True), (0,), (None,), (["e"],)]
        for tree in wrong:
            self.assertIs(is_tree(EFS, tree), False, tree)
            self.raises(BadTree, size, EFS, tree)
            self.raises(BadTree, depth, EFS, tree)
            self.raises(BadTree, part, EFS, tree, None)
        self.takes_none_of(lambda thing: is_tree(EFS, thing), wrong_kinds(("f", ("s", E), ("f", E, E))))

    def test_bounds_of_size(self):
        tree = ("f", balanced(7), ("f", balanced(8), E))
        self.assertEqual(nodes_in(tree), 127 + 255 + 3)
        while nodes_in(tree) < 400:
            tree = ("s", tree)
        self.assertEqual(nodes_in(tree), 400)
        self.assertIs(is_tree(EFS, tree), True)
        self.assertEqual(size(EFS, tree), 400)
        self.assertIs(is_tree(EFS, ("s", tree)), False)
        self.raises(BadTree, size, EFS, ("s", tree))

    def test_bounds_of_depth(self):
        self.assertEqual(depth(ES, comb(59)), 60)
        self.assertEqual(size(ES, comb(59)), 60)
        self.assertIs(is_tree(ES, comb(60)), False)
        self.raises(BadTree, depth, ES, comb(60))
        self.assertIs(is_tree(EF, left_comb(59)), True)
        self.assertIs(is_tree(EF, left_comb(60)), False)

    def test_what_is_endless_large_is_refused_at_once(self):
        self.assertIs(self.within(1, is_tree, EF, balanced(60)), False)
        self.assertIs(self.within(1, is_tree, ES, comb(20000)), False)

    def test_size_and_depth(self):
        tree = ("f", ("s", E), ("f", E, ("s", ("s", E))))
        self.assertEqual((size(EFS, tree), depth(EFS, tree)), (8, 5))
        self.assertEqual((size(EFS, E), depth(EFS, E)), (1, 1))
        self.assertEqual((size(kinds=EFS, tree=E), depth(kinds=EFS, tree=E)), (1, 1))


class Parts(Case):
    tree = ("f", ("s", E), ("f", E, ("s", E)))

    def test_part(self):
        self.assertEqual(part(EFS, self.tree, ()), self.tree)
        self.assertEqual(part(EFS, self.tree, (1,)), ("f", E, ("s", E)))
        self.assertEqual(part(EFS, self.tree, (1, 1, 0)), E)
        self.assertEqual(part(EFS, self.tree, (0, 0)), E)

    def test_with_part(self):
        self.assertEqual(with_part(EFS, self.tree, (), E), E)
        self.assertEqual(with_part(EFS, self.tree, (1, 0), ("s", E)), ("f", ("s", E), ("f", ("s", E), ("s", E))))
        self.assertEqual(with_part(EFS, self.tree, (0,), E), ("f", E, ("f", E, ("s", E))))

    def test_bad_paths(self):
        for path in (None, [], [0], "", "0", 0, (2,), (-1,), (0, 1), (0, 0, 0), (True,), (False,), (None,), ("0",), (0.0,)):
            self.raises(BadPath, part, EFS, self.tree, path)
            self.raises(BadPath, with_part, EFS, self.tree, path, None)

    def test_which_error_counts(self):
        self.raises(BadTree, with_part, EFS, None, None, None)
        self.raises(BadTree, with_part, EFS, self.tree, (0,), ("e", E))
        self.raises(BadTree, with_part, EFS, self.tree, (0,), ["e"])

    def test_what_would_come_is_no_tree(self):
        self.assertEqual(depth(ES, with_part(ES, comb(29), (0,) * 29, comb(30))), 60)
        self.raises(BadTree, with_part, ES, comb(30), (0,) * 30, comb(30))
        wide = ("f", balanced(8), E)
        self.assertEqual(nodes_in(wide), 257)
        self.assertEqual(size(EF, with_part(EF, wide, (1,), balanced(7))), 383)
        self.raises(BadTree, with_part, EF, wide, (1,), balanced(8))


class Lists(Case):
    def test_by_hand(self):
        self.assertEqual(trees_of(EF, 3), (("f", E, E),))
        self.assertEqual(count(EF, 5), 2)
        self.assertEqual(trees_of(EF, 2), ())
        self.assertEqual(trees_of(EF, 5), (("f", E, ("f", E, E)), ("f", ("f", E, E), E)))

    def test_bad_numbers(self):
        for many in (0, 13, -1, True, None, "3", 3.0, (3,)):
            self.raises(BadNumber, trees_of, EF, many)
        for many in (0, 201, -1, True, None, "3", 3.0, (3,)):
            self.raises(BadNumber, count, EF, many)

    def test_bounds(self):
        self.assertEqual(trees_of(EF, 1), (E,))
        self.assertEqual(trees_of(EF, 12), ())
        self.assertEqual(trees_of(ES, 12), (comb(11),))
        self.assertEqual(len(trees_of(EF, 11)), 42)
        self.assertEqual(count(EF, 1), 1)
        self.assertEqual(count(EF, 200), 0)
        self.assertEqual(count(ES, 200), 1)
        catalan = 1
        for n in range(99):
            catalan = catalan * 2 * (2 * n + 1) // (n + 2)
        self.assertEqual(count(EF, 199), catalan)
        self.within(5, count, (("a", 0), ("b", 3), ("c", 3), ("d", 3), ("e", 2), ("f", 1)), 200)

    def test_more_than_three_thousand(self):
        leaves = (("a", 0), ("b", 0), ("c", 0), ("d", 0), ("e", 0), ("f", 2))
        self.assertEqual([count(leaves, many) for many in (1, 3, 5, 7)], [5, 25, 250, 3125])
        self.assertEqual(len(trees_of(leaves, 5)), 250)
        self.too_many(3000, trees_of, leaves, 7)
        self.too_many(3000, trees_of, leaves, 11)
        # No tree has 12 nodes, though far too many have 10.
        threes = leaves[:5] + (("f", 3),)
        self.assertEqual(self.within(2, trees_of, threes, 12), ())
        self.assertEqual(count(threes, 10), 12 * 5 ** 7)
        just = (("a", 0), ("b", 1), ("c", 1), ("d", 1))
        self.assertEqual(len(trees_of(just, 8)), 2187)
        self.too_many(3000, trees_of, just, 9)

    def test_all_trees_in_order(self):
        choose = chance(4)
        for _ in range(40):
            kinds = random_kinds(choose)
            trees = every_tree(kinds, 5)
            for many in range(1, 6):
                told = [tree for tree in trees if nodes_in(tree) == many]
                self.assertEqual(count(kinds, many), len(told))
                if len(told) <= 3000:
                    self.assertEqual(trees_of(kinds, many), tuple(told))
            for tree in trees[:50]:
                self.assertEqual((size(kinds, tree), depth(kinds, tree)), (nodes_in(tree), levels_in(tree)))
