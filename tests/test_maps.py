import itertools

from helpers import (E, EF, EFS, ES, FOUR_THREES, ODD, THREE_THREES, Case, balanced, chance, comb, cycle, every_tree, is_in_set, left_comb, levels_in, nodes_in, one_state,
                     parts_of, plain_state, exchanged, at_path, random_kinds, random_set, set_of, wrong_kinds, wrong_lengths)
from samewriting.errors import BadKinds, BadMap, BadSet, BadTree
from samewriting.joins import least
from samewriting.maps import coming_into, is_map, mapped
from samewriting.sets import is_in, is_set

TURNED = (("e",), ("f", 1, 0))


def plain_mapped(kinds, frames, tree):
    """What comes of a tree, by the words of the document."""
    below = [plain_mapped(kinds, frames, child) for child in tree[1:]]

    def put_in(frame):
        return below[frame] if isinstance(frame, int) else (frame[0],) + tuple(put_in(part) for part in frame[1:])
    return put_in(frames[[name for name, _ in kinds].index(tree[0])])


def random_frame(choose, others, rank, nodes):
    if rank and choose.random() < 0.5 or nodes <= 0 and rank:
        return choose.randrange(rank)
    leaves = [pair for pair in others if pair[1] == 0]
    name, many = choose.choice(others) if nodes > 0 else choose.choice(leaves)
    return (name,) + tuple(random_frame(choose, others, rank, nodes - 2) for _ in range(many))


def random_map(choose, kinds, others):
    while True:
        frames = tuple(random_frame(choose, others, rank, 4) for _, rank in kinds)
        if is_map(kinds, others, frames):
            return frames


class IsMap(Case):
    def test_right_ones(self):
        for frames in (TURNED, (("e",), 0), (("e",), 1), (("e",), ("e",)), (("f", ("e",), ("e",)), ("f", 0, 0)), (("e",), ("f", ("f", 1, 1), ("f", 0, ("e",))))):
            self.assertIs(is_map(EF, EF, frames), True)
        self.assertIs(is_map(EF, ES, (("e",), ("s", ("s", 1)))), True)
        self.assertIs(is_map(ES, EF, (("e",), ("f", 0, 0))), True)
        self.assertIs(is_map(kinds=ES, others=EFS, thing=(("e",), 0)), True)
        choose = chance(1)
        for _ in range(60):
            kinds, others = random_kinds(choose), random_kinds(choose)
            self.assertIs(is_map(kinds, others, random_map(choose, kinds, others)), True)

    def test_bounds(self):
        # Frames of 12 and of 13 nodes; numbers are not counted.
        for many in (11, 12, 13):
            frame = ("e",)
            for _ in range(many - 1):
                frame = ("s", frame)
            self.assertIs(is_map(ES, ES, (frame, 0)), many < 13)
            self.assertIs(is_map(ES, ES, (("e",), frame)), many < 13)
        for many in (12, 13):
            frame = 0
            for _ in range(many):
                frame = ("f", 1, frame)
            self.assertIs(is_map(EF, EF, (("e",), frame)), many < 13)
        deep = ("e",)
        for _ in range(2000):
            deep = ("s", deep)
        wide = 0
        for _ in range(40):
            wide = ("f", wide, wide)
        self.assertIs(self.within(1, is_map, ES, ES, (deep, 0)), False)
        self.assertIs(self.within(1, is_map, EF, EF, (("e",), wide)), False)

    def test_wrong_ones(self):
        for frames in ((("e",), 2), (("e",), -1), (0, 0), (("e",), ("f", 0)), (("e",), ("f", 0, 1, 1)), (("e",), ("s", 0)), (("e",), "e"), (("e",), ("f", "e", 0)), (("e",), True), (("e",), ("f", False, 0)),
                       (("e",), 0.0), (("e",), None), (("e",), ()), (("e",), ("f", [0], 0)), (("e",),), (("e",), 0, 0), [("e",), 0], (("e", 0), 0), ((0,), 0), (("f", 0, 0), 0), (("e",), ["f", 0, 1])):
            self.assertIs(is_map(EF, EF, frames), False, frames)
        self.takes_none_of(lambda thing: is_map(EF, EF, thing), ODD)
        frames = (("f", ("e",), ("e",)), ("f", 1, ("f", 0, ("e",))))
        for thing in wrong_kinds(frames):
            self.assertIs(is_map(EF, EF, thing), False, thing)
        for path, thing in wrong_lengths(frames):
            self.assertIs(is_map(EF, EF, thing), False, thing)
        for path in parts_of(frames):
            for other in (0, 1, 2, ("e",), "f"):
                thing = exchanged(frames, path, other)
                right = isinstance(at_path(frames, path), (int, tuple)) and path and (other == ("e",) or path[0] == 1 and other in (0, 1) and path[-1:] != (0,)) or at_path(frames, path) == other
                self.assertIs(is_map(EF, EF, thing), bool(right), (path, other))

    def test_kinds(self):
        for thing in ODD:
            self.raises(BadKinds, is_map, thing, EF, TURNED)
            self.raises(BadKinds, is_map, EF, thing, TURNED)
            self.raises(BadKinds, mapped, thing, EF, None, None)
            self.raises(BadKinds, mapped, EF, thing, None, None)
            self.raises(BadKinds, coming_into, thing, None, None)


class Mapped(Case):
    def test_by_hand(self):
        self.assertEqual(mapped(EF, EF, TURNED, ("f", ("f", E, E), E)), ("f", E, ("f", E, E)))
        self.assertEqual(mapped(EF, ES, (("e",), ("s", 1)), ("f", ("f", E, E), ("f", E, E))), comb(2))
        self.assertEqual(mapped(ES, EF, (("e",), ("f", 0, 0)), comb(3)), balanced(4))
        self.assertEqual(mapped(ES, ES, (comb(2), 0), comb(3)), comb(2))
        self.assertEqual(mapped(kinds=ES, others=ES, frames=(("e",), ("s", ("s", 0))), tree=comb(2)), comb(4))

    def test_by_words(self):
        choose = chance(2)
        for _ in range(150):
            kinds, others = random_kinds(choose), random_kinds(choose)
            frames = random_map(choose, kinds, others)
            for tree in every_tree(kinds, 5)[:40]:
                wanted = plain_mapped(kinds, frames, tree)
                if nodes_in(wanted) > 400:
                    self.too_many(400, mapped, kinds, others, frames, tree)
                elif levels_in(wanted) > 60:
                    self.too_many(60, mapped, kinds, others, frames, tree)
                else:
                    self.assertEqual(mapped(kinds, others, frames, tree), wanted)

    def test_nodes_and_levels(self):
        twice = (("e",), ("s", ("s", 0)))
        self.assertEqual(levels_in(mapped(ES, ES, (("e",), ("s", 0)), comb(59))), 60)
        self.assertEqual(levels_in(mapped(ES, ES, (comb(1),) + twice[1:], comb(29))), 60)
        self.too_many(60, mapped, ES, ES, twice, comb(30))
        self.too_many(60, mapped, ES, ES, (comb(3),) + twice[1:], comb(29))
        # f of 9 nodes and so on: just 400, and 401, of f (the last child) and seven further nodes.
        full = (("e",), ("f", 0, ("f", E, ("f", E, ("f", E, E)))))
        self.assertEqual(nodes_in(mapped(ES, EF, full, comb(49))), 49 * 8 + 1)
        kinds = (("e", 0), ("s", 1), ("t", 1))
        for more, is_let in ((7, True), (8, False)):
            tree = comb(49)
            for _ in range(more):
                tree = ("t", tree)
            others = (("e", 0), ("f", 2), ("s", 1))
            frames = full + (("s", 0),)
            if is_let:
                self.assertEqual(nodes_in(mapped(kinds, others, frames, tree)), 400)
            else:
                self.too_many(400, mapped, kinds, others, frames, tree)
        # Too many nodes count ahead of too many levels.
        self.too_many(400, mapped, ES, EF, (("e",), ("f", 0, 0)), comb(59))
        self.too_many(400, mapped, ES, EF, (("e",), ("f", 0, 0)), comb(8))
        self.assertEqual(nodes_in(mapped(ES, EF, (("e",), ("f", 0, 0)), comb(7))), 255)

    def test_what_is_dropped(self):
        # What comes of a child is far too large, and is dropped above.
        kinds = (("e", 0), ("f", 2), ("s", 1))
        frames = (("e",), 0, ("f", 0, 0))
        self.assertEqual(self.within(5, mapped, kinds, EF, frames, ("f", E, comb(57))), E)
        self.too_many(400, mapped, kinds, EF, frames, ("f", comb(57), E))
        self.assertEqual(self.within(5, mapped, kinds, EF, (("e",), 1, ("f", 0, 0)), ("f", ("f", comb(50), comb(3)), ("f", comb(40), comb(2)))), balanced(3))
        self.assertEqual(self.within(5, mapped, kinds, EF, (("e",), ("e",), ("f", 0, 0)), left_comb(59)), E)

    def test_errors_in_order(self):
        for thing in ODD:
            self.raises(BadMap, mapped, EF, EF, thing, None)
            if thing != E:
                self.raises(BadTree, mapped, EF, EF, TURNED, thing)
        self.raises(BadKinds, mapped, None, None, None, None)
        self.raises(BadMap, mapped, EF, ES, TURNED, E)
        self.raises(BadTree, mapped, EF, EF, TURNED, comb(1))
        self.raises(BadTree, mapped, ES, ES, (("e",), ("s", ("s", 0))), comb(60))


class ComingInto(Case):
    def test_by_hand(self):
        two = set_of(EF, 2, lambda name, states: 1 if states == (1, 0) or states == (0, 0) else 0, (1,))
        told = coming_into(EF, TURNED, two)
        self.assertEqual(told, least(set_of(EF, 2, lambda name, states: 1 if states == (0, 1) or states == (0, 0) else 0, (1,))))
        self.assertEqual(coming_into(kinds=ES, frames=(("e",), ("s", ("s", 0))), trees=cycle(4, (0,))), cycle(2, (0,)))
        self.assertEqual(coming_into(ES, (("e",), 0), cycle(4, (1,))), least(set_of(ES, 1, lambda name, states: 0)))

    def test_fact(self):
        # What is mapped is in the set exactly if the tree is told.
        choose = chance(3)
        met = set()
        for _ in range(150):
            kinds, others = random_kinds(choose), random_kinds(choose)
            frames = random_map(choose, kinds, others)
            trees = random_set(choose, others, 3)
            told = coming_into(kinds, frames, trees)
            self.assertIs(is_set(told), True)
            self.assertEqual(least(told), told)
            for tree in every_tree(kinds, 5)[:40]:
                other = plain_mapped(kinds, frames, tree)
                self.assertEqual(is_in_set(told, tree), is_in_set(trees, other))
                if nodes_in(other) < 100:
                    self.assertEqual(is_in(told, tree), is_in(trees, mapped(kinds, others, frames, tree)))
                met.add(is_in_set(told, tree))
        self.assertEqual(met, {True, False})

    def test_far_trees(self):
        # The states are those of what comes, however large it is.
        told = coming_into(ES, (("e",), ("f", 0, 0)), cycle(7, (3,), EF))
        tree = comb(50)
        state = 0
        for _ in range(50):
            state = (1 + 2 * state) % 7
        self.assertEqual(is_in(told, tree), state == 3)

    def test_goals(self):
        # 60 states of ES, and for kinds with rows of two and three children: just as many goals as are let.
        sixty = cycle(60, (0,))
        for kinds, most in ((EF, None), (THREE_THREES, 4000), ((("e", 0), ("f", 3)), 4000), ((("e", 0), ("f", 2), ("g", 2)), 4000)):
            frames = tuple(("e",) if rank == 0 else ("s", 0) for _, rank in kinds)
            if most is None:
                self.assertEqual(coming_into(kinds, frames, sixty)[2], 60)
            else:
                self.within(5, self.too_many, most, coming_into, kinds, frames, sixty)
        eleven = cycle(11, (0,))
        frames = tuple(("e",) if rank == 0 else ("s", 0) for _, rank in THREE_THREES)
        self.assertEqual(coming_into(THREE_THREES, frames, eleven)[2], 11)
        ten = cycle(10, (0,))
        frames = tuple(("e",) if rank == 0 else ("s", 0) for _, rank in FOUR_THREES)
        self.too_many(4000, coming_into, FOUR_THREES, frames, ten)
        self.assertEqual(coming_into(FOUR_THREES, frames, cycle(9, (0,)))[2], 9)
        # States that nothing maps to do not count; nor those that are made one in the end.
        self.assertEqual(coming_into(FOUR_THREES, tuple(("e",) if rank == 0 else 0 for _, rank in FOUR_THREES), ten)[2], 1)
        self.too_many(4000, coming_into, FOUR_THREES, frames, cycle(10, ()))

    def test_errors_in_order(self):
        for thing in ODD:
            self.raises(BadSet, coming_into, EF, None, thing)
            self.raises(BadMap, coming_into, EF, thing, one_state(EF))
        self.raises(BadKinds, coming_into, None, None, None)
        self.raises(BadSet, coming_into, EF, TURNED, EF)
        self.raises(BadMap, coming_into, EF, TURNED, one_state(ES))
        self.raises(BadMap, coming_into, FOUR_THREES, TURNED, cycle(10))

    def test_by_tables(self):
        # All pairs of small frames, against states told by hand.
        frames = [0, 1, E, ("f", 0, 1), ("f", 1, 0), ("f", 0, 0), ("f", ("f", 1, 0), E)]
        trees = set_of(EF, 3, lambda name, states: 1 if not states else (2 * states[0] + states[1]) % 3, (0, 2))
        for frame, leaf in itertools.product(frames, (E, ("f", E, E))):
            told = coming_into(EF, (leaf, frame), trees)
            for tree in every_tree(EF, 7):
                self.assertEqual(is_in_set(told, tree), plain_state(trees, plain_mapped(EF, (leaf, frame), tree)) in (0, 2))
