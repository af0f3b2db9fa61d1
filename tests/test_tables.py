from helpers import (E, EF, EFS, ES, ODD, Case, at_path, balanced, chance, comb, cycle, every_tree, exchanged, left_comb, levels_in, nodes_in, one_state, parts_of,
                     plain_state, random_kinds, random_set, wrong_kinds, wrong_lengths)
from samewriting.errors import BadKinds, BadSet, BadTable, BadTree
from samewriting.tables import depth_told, is_table, least_table, size_told, table_from, table_state, tree_told
from samewriting.trees import is_tree

HAND = ("table", (("e",), ("f", 0, 0), ("f", 1, 1)))


def table(*rows):
    return ("table", rows)


def plain_tree(told, place=-1):
    row = told[1][place]
    return (row[0],) + tuple(plain_tree(told, number) for number in row[1:])


def unlike_parts(tree):
    """Each unlike part, in the order in which a walk, children first, first comes to its end."""
    found = []
    for child in tree[1:]:
        found.extend(part for part in unlike_parts(child) if part not in found)
    return found + [tree] * (tree not in found)


def random_table(choose, kinds, many):
    rows = []
    while len(rows) < many:
        name, rank = choose.choice(kinds)
        if rank == 0 or rows:
            rows.append((name,) + tuple(choose.randrange(max(0, len(rows) - 4), len(rows)) for _ in range(rank)))
    return ("table", tuple(rows))


def doubled(many):
    """The table of so many rows of a full tree."""
    return ("table", (("e",),) + tuple(("f", place, place) for place in range(many - 1)))


def line(many):
    """The table of so many rows of a tree that is all in one line."""
    return ("table", (("e",),) + tuple(("s", place) for place in range(many - 1)))


class IsTable(Case):
    def test_right_ones(self):
        self.assertIs(is_table(EF, HAND), True)
        self.assertIs(is_table(kinds=EF, thing=table(("e",), ("e",), ("f", 1, 0))), True)
        choose = chance(1)
        for _ in range(40):
            kinds = random_kinds(choose)
            self.assertIs(is_table(kinds, random_table(choose, kinds, choose.randint(1, 30))), True)

    def test_bounds(self):
        self.assertIs(is_table(EF, table()), False)
        self.assertIs(is_table(EF, doubled(400)), True)
        self.assertIs(is_table(EF, doubled(401)), False)
        self.assertIs(is_table(EF, ("table", (("e",),) * 400)), True)
        self.assertIs(is_table(EF, ("table", (("e",),) * 401)), False)

    def test_wrong_ones(self):
        for rows in ((("f", 0, 0),), (("e",), ("f", 0, 1)), (("e",), ("f", 1, 0)), (("e",), ("f", -1, 0)), (("e",), ("f", 0)), (("e",), ("f", 0, 0, 0)), (("e", 0),), (("e",), ("s", 0)), (("g",),),
                     ("e",), ((),), (("e",), ("f", True, 0)), (("e",), ("f", 0, False)), (("e",), ("f", 0.0, 0)), (("e",), ("f", ("e",), 0)), (("e",), ["f", 0, 0]), ((["e"],),), ((0,),), (None,), (E, E, ("f", 0, 2))):
            self.assertIs(is_table(EF, ("table", rows)), False, rows)
        self.takes_none_of(lambda thing: is_table(EF, thing), ODD + (HAND[1], list(HAND), HAND + ((),), ("tables", HAND[1]), ("table", list(HAND[1])), ("table",)))
        self.takes_none_of(lambda thing: is_table(EF, thing), wrong_kinds(HAND))
        for path, thing in wrong_lengths(HAND):
            right = path == (1,) and thing[1][:1] == (("e",),) and all(max(row[1:], default=-1) < place for place, row in enumerate(thing[1]))
            self.assertIs(is_table(EF, thing), right, thing)
        for path in parts_of(HAND):
            for other in (9, -1, "g", None, ()):
                self.assertIs(is_table(EF, exchanged(HAND, path, other)), False, (at_path(HAND, path), other))

    def test_all_functions_refuse_what_is_none(self):
        for thing in ODD + (HAND[1], doubled(401), table(("s", 0))):
            for function in (size_told, depth_told, tree_told, least_table):
                self.raises(BadTable, function, EF, thing)
            self.raises(BadTable, table_state, one_state(EF), thing)
        for thing in ODD:
            for function in (size_told, depth_told, tree_told, least_table, is_table):
                self.raises(BadKinds, function, thing, HAND if function != is_table else None)
                self.raises(BadKinds, function, thing, None)
            self.raises(BadKinds, table_from, thing, None)
            self.raises(BadSet, table_state, thing, None)
            if thing != E:
                self.raises(BadTree, table_from, EF, thing)
        for function in (size_told, tree_told):
            self.raises(BadTable, function, ES, HAND)


class Told(Case):
    def test_by_hand(self):
        self.assertEqual(tree_told(EF, HAND), balanced(3))
        self.assertEqual((size_told(EF, HAND), depth_told(EF, HAND)), (7, 3))
        self.assertEqual(table_from(EF, balanced(3)), HAND)
        self.assertEqual(table_from(EF, ("f", ("f", E, E), E)), table(("e",), ("f", 0, 0), ("f", 1, 0)))
        self.assertEqual(table_from(EFS, ("f", ("s", E), ("f", E, ("s", E)))), table(("e",), ("s", 0), ("f", 0, 1), ("f", 1, 2)))
        self.assertEqual(least_table(EF, table(("e",), ("e",), ("f", 0, 1), ("f", 1, 0), ("e",), ("f", 3, 2))), HAND)
        self.assertEqual(least_table(EF, table(("e",), ("f", 0, 0), ("e",))), table(("e",)))
        self.assertEqual(table_state(cycle(5, (), EF), HAND), plain_state(cycle(5, (), EF), balanced(3)))
        self.assertEqual(tree_told(kinds=EF, table=HAND), tree_told(EF, least_table(kinds=EF, table=HAND)))
        self.assertEqual((size_told(kinds=EF, table=HAND), depth_told(kinds=EF, table=HAND), table_state(trees=one_state(EF), table=HAND)), (7, 3, 0))
        self.assertEqual(table_from(kinds=EF, tree=E), table(("e",)))

    def test_by_words(self):
        choose = chance(2)
        for _ in range(150):
            kinds = random_kinds(choose)
            told = random_table(choose, kinds, choose.randint(1, 9))
            size, depth = size_told(kinds, told), depth_told(kinds, told)
            if size > 2000:
                continue
            tree = plain_tree(told)
            self.assertEqual((size, depth), (nodes_in(tree), levels_in(tree)))
            trees = random_set(choose, kinds, 4)
            self.assertEqual(table_state(trees, told), plain_state(trees, tree))
            parts = unlike_parts(tree)
            wanted = ("table", tuple((part[0],) + tuple(parts.index(child) for child in part[1:]) for part in parts))
            self.assertEqual(least_table(kinds, told), wanted)
            self.assertEqual(least_table(kinds, wanted), wanted)
            self.assertLessEqual(len(wanted[1]), len(told[1]))
            if size <= 400 and depth <= 60:
                self.assertEqual(tree_told(kinds, told), tree)
                self.assertEqual(table_from(kinds, tree), wanted)

    def test_least_tables(self):
        # Two tables tell one tree exactly if their least ones are equal.
        choose = chance(3)
        met = set()
        for _ in range(300):
            one, other = [random_table(choose, EF, choose.randint(1, 6)) for _ in range(2)]
            same = plain_tree(one) == plain_tree(other)
            self.assertEqual(least_table(EF, one) == least_table(EF, other), same)
            met.add(same)
        self.assertEqual(met, {True, False})
        for tree in every_tree(EFS, 6):
            self.assertEqual(tree_told(EFS, table_from(EFS, tree)), tree)

    def test_bounds(self):
        full = table(("e",), ("f", 0, 0), ("f", 1, 1), ("f", 2, 2), ("f", 3, 3), ("f", 4, 4), ("f", 5, 5), ("f", 6, 6), ("f", 6, 3), ("s", 8), ("f", 7, 9))
        self.assertEqual(size_told(EFS, full), 400)
        self.assertEqual(nodes_in(tree_told(EFS, full)), 400)
        over = ("table", full[1] + (("s", 10),))
        self.assertEqual(size_told(EFS, over), 401)
        self.too_many(400, tree_told, EFS, over)
        self.assertEqual(tree_told(ES, line(60)), comb(59))
        self.too_many(60, tree_told, ES, line(61))
        self.too_many(60, tree_told, ES, line(400))
        # Too many nodes count first.
        self.too_many(400, tree_told, EFS, ("table", line(60)[1] + tuple(("f", place, place) for place in range(59, 64))))
        self.raises(BadTree, table_from, EF, left_comb(60))
        self.assertEqual(table_from(ES, comb(59)), line(60))
        # Rows that do not come into the tree count nothing.
        lost = ("table", doubled(399)[1] + (("e",),))
        self.assertEqual((size_told(EF, lost), depth_told(EF, lost), tree_told(EF, lost)), (1, 1, E))
        self.assertEqual(least_table(EF, lost), table(("e",)))

    def test_very_large_ones(self):
        told = doubled(400)
        self.assertEqual(self.within(5, size_told, EF, told), 2 ** 400 - 1)
        self.assertEqual(self.within(5, depth_told, EF, told), 400)
        self.too_many(400, tree_told, EF, told)
        self.assertEqual(self.within(5, least_table, EF, told), told)
        state = 0
        for _ in range(399):
            state = (1 + 2 * state) % 7
        self.assertEqual(self.within(5, table_state, cycle(7, (), EF), told), state)
        # Each row twice.
        twice = [("e",), ("e",)]
        while len(twice) < 400:
            twice += [("f", len(twice) - 2, len(twice) - 1), ("f", len(twice) - 1, len(twice) - 2)]
        self.assertEqual(self.within(5, least_table, EF, ("table", tuple(twice))), doubled(200))
        self.assertEqual(self.within(5, least_table, ES, line(400)), line(400))
        # On a line from the last child on: the walk goes to the first child first.
        rows = [("e",), ("s", 0)]
        while len(rows) < 400:
            rows.append(("f", 1, len(rows) - 1))
        self.assertEqual(self.within(5, least_table, EFS, ("table", tuple(rows))), ("table", tuple(rows)))
        rows = [("e",), ("s", 0)]
        while len(rows) < 400:
            rows.append(("f", len(rows) - 1, 0))
        self.assertEqual(self.within(5, least_table, EFS, ("table", tuple(rows))), ("table", tuple(rows)))

    def test_order_of_the_walk(self):
        # The first child's parts come first, also where they stand behind in the table.
        told = table(("e",), ("s", 0), ("f", 0, 0), ("s", 1), ("f", 3, 2))
        self.assertEqual(least_table(EFS, told), table(("e",), ("s", 0), ("s", 1), ("f", 0, 0), ("f", 2, 3)))
        self.assertIs(is_tree(EFS, tree_told(EFS, told)), True)
        self.assertEqual(table_from(EFS, tree_told(EFS, told)), least_table(EFS, told))
