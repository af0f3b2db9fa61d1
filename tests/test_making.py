from helpers import (E, EF, EFS, ES, FOUR_THREES, ODD, THREE_THREES, Case, balanced, chance, comb, cycle, every_tree, is_in_set, left_comb, nodes_in, one_state,
                     random_kinds, random_set, readers_of, set_of, wrong_kinds)
from templating import are_pressed, plain_written, random_reader, room, say
from test_maps import TURNED, plain_mapped, random_map
from test_readers import HAND
from samewriting.errors import BadKinds, BadMap, BadReader, BadSet, BadTexts, OtherKinds, TooMany
from samewriting.making import chosen, folded, joined, limited, mirrored, spelled
from samewriting.readers import is_reader, written
from samewriting.sets import is_in
from samewriting.tidying import merged
from samewriting.trees import is_tree

T = ("f", E, E)


def over(trees, pieces, end=(room(0, 0),), rooms=1):
    """A reader that has these pieces in all rooms of all nodes that are no leaves."""
    return readers_of(trees, rooms, lambda name, states: (pieces if states else (say("a"),),) * rooms, lambda state: end)


def are_made(case, told):
    """What is told is a reader, pressed, and takes the states with an end."""
    case.assertIs(is_reader(told), True)
    case.assertEqual(told[1][4], tuple(state for state, end in enumerate(told[4]) if end is not None))
    for pieces in [pieces for row in told[3] for held in row for pieces in held] + [end for end in told[4] if end is not None]:
        case.assertTrue(are_pressed(pieces))


def walked(trees_of_reader):
    """Whether states are numbered as a walk first meets them, round by round."""
    _, kinds, many, rows, _ = trees_of_reader
    known = []
    while True:
        begun = len(known)
        for (_, rank), row in zip(kinds, rows):
            tuples = [()]
            for _ in range(rank):
                tuples = [some + (state,) for some in tuples for state in range(begun)]
            for states in tuples:
                place = 0
                for state in states:
                    place = place * many + state
                if row[place] not in known:
                    known.append(row[place])
        if len(known) == begun:
            return known == list(range(many))


class Mirrored(Case):
    def test_by_hand(self):
        self.assertEqual(mirrored(HAND)[3], HAND[3])
        self.assertEqual(mirrored(HAND)[1], HAND[1][:4] + ((0,),))
        reader = over(one_state(EF), (say("ab"), room(0, 0), say("c"), room(1, 0)), (room(0, 0), say("bc")))
        self.assertEqual(mirrored(reader)[3][1][0][0], (room(1, 0), say("c"), room(0, 0), say("ba")))
        self.assertEqual(mirrored(reader)[4], ((say("cb"), room(0, 0)),))
        self.assertEqual(written(mirrored(reader=reader), T), written(reader, T)[::-1])
        # Says are put together and cut anew, from the beginning on.
        told = mirrored(over(one_state(EF), (say("a" * 30), say("b" * 30), room(0, 0), say("c"))))[3][1][0][0]
        self.assertEqual(told, (say("c"), room(0, 0), say("b" * 30 + "a" * 10), say("a" * 20)))
        told = mirrored(over(one_state(EF), (say("a" * 40), say("b"))))[3][1][0][0]
        self.assertEqual(told, (say("b" + "a" * 39), say("a")))

    def test_by_words(self):
        choose = chance(1)
        for _ in range(60):
            kinds = random_kinds(choose)
            reader = random_reader(choose, random_set(choose, kinds, 3), choose.randint(1, 3), 3)
            told = mirrored(reader)
            are_made(self, told)
            self.assertEqual(told[1][:4], reader[1][:4])
            for tree in every_tree(kinds, 5)[:40]:
                text = plain_written(reader, tree)
                self.assertEqual(plain_written(told, tree), None if text is None else text[::-1])
            again = mirrored(told)
            for tree in every_tree(kinds, 4)[:20]:
                self.assertEqual(plain_written(again, tree), plain_written(reader, tree))


class Spelled(Case):
    def test_by_hand(self):
        told = spelled(HAND, ("b", "", "c"))
        self.assertEqual(told[3], ((((say("b"),),),), (((room(0, 0), room(0, 0)),),)))
        self.assertEqual(written(spelled(HAND, ("bc", "a", "")), T), "bcabc")
        self.assertEqual(spelled(reader=HAND, texts=("a", "b", "c"))[3], HAND[3])
        # Nothing is left of a say between two others.
        reader = over(one_state(EF), (say("a" * 30), say("b" * 5), say("a" * 30), room(0, 0)))
        self.assertEqual(spelled(reader, ("c", "", ""))[3][1][0][0], (say("c" * 40), say("c" * 20), room(0, 0)))
        self.assertEqual(spelled(reader, ("", "", ""))[3][1][0][0], (room(0, 0),))

    def test_by_words(self):
        choose = chance(2)
        for _ in range(60):
            kinds = random_kinds(choose)
            reader = random_reader(choose, random_set(choose, kinds, 3), choose.randint(1, 3), 3)
            texts = tuple("".join(choose.choice("abc") for _ in range(choose.choice((0, 1, 2, 8)))) for _ in range(3))
            told = spelled(reader, texts)
            are_made(self, told)
            for tree in every_tree(kinds, 5)[:40]:
                text = plain_written(reader, tree)
                self.assertEqual(plain_written(told, tree), None if text is None else "".join(texts["abc".index(letter)] for letter in text))

    def test_bounds(self):
        # 40 letters of 8 are 8 says; 7 * 8 + 3 rooms and one say more are 60 items.
        def reader(says, rooms, more=()):
            return over(one_state(EF), (say("a" * 40), room(0, 0)) * says + (room(0, 0),) * rooms + more)
        self.assertEqual(len(spelled(reader(6, 6), ("c" * 8, "", ""))[3][1][0][0]), 60)
        self.too_many(60, spelled, reader(6, 7), ("c" * 8, "", ""))
        self.assertEqual(len(spelled(reader(6, 7), ("c" * 7, "", ""))[3][1][0][0]), 55)
        self.too_many(60, spelled, over(one_state(EF), (), (say("ab" * 20),) * 10), ("c" * 8, "b" * 5, ""))
        self.assertEqual(len(spelled(over(one_state(EF), (), (say("ab" * 20),) * 10), ("c" * 8, "b" * 4, ""))[4][0]), 60)
        # Rows that no tree has count as well.
        unmet = ("set", ES, 2, ((0,), (0, 1)), ())
        bent = readers_of(unmet, 1, lambda name, states: ((say("a" * 40), room(0, 0)) * 7 if states == (1,) else (),), lambda state: ())
        self.too_many(60, spelled, bent, ("c" * 8, "", ""))

    def test_texts(self):
        for texts in (None, (), ("a", "b"), ("a", "b", "c", ""), ["a", "b", "c"], "abc", ("a" * 9, "", ""), ("", "", "b" * 9), ("d", "", ""), ("", "A", ""), ("", "", None), ("", b"a", ""), (1, 2, 3)):
            self.raises(BadTexts, spelled, HAND, texts)
        self.assertIs(is_reader(spelled(HAND, ("a" * 8, "b" * 8, "c" * 8))), True)
        self.raises(BadTexts, spelled, over(one_state(EF), (say("a" * 40), room(0, 0)) * 30), ("a" * 8, "", "d"))


class Limited(Case):
    def test_by_hand(self):
        told = limited(cycle(2, (1,), EF), HAND)
        self.assertEqual(told[1], ("set", EF, 2, ((0,), (1, 0, 0, 1)), (1,)))
        self.assertEqual(told[4], (None, (room(0, 0),)))
        self.assertEqual(told[3], (HAND[3][0], HAND[3][1] * 4))
        self.assertEqual(limited(trees=one_state(EF), reader=HAND)[1:], (HAND[1][:4] + ((0,),),) + HAND[2:])

    def test_by_words(self):
        choose = chance(3)
        for _ in range(60):
            kinds = random_kinds(choose)
            trees = random_set(choose, kinds, 3)
            reader = random_reader(choose, random_set(choose, kinds, 3), choose.randint(1, 3), 3)
            told = limited(trees, reader)
            are_made(self, told)
            self.assertTrue(walked(told[1]))
            for tree in every_tree(kinds, 5)[:40]:
                self.assertEqual(plain_written(told, tree), plain_written(reader, tree) if is_in_set(trees, tree) else None)

    def test_bounds(self):
        seven, eight = cycle(7), cycle(8)
        self.assertEqual(limited(cycle(60), over(cycle(4), ()))[1][2], 60)
        self.assertEqual(limited(seven, over(eight, ()))[1][2], 56)
        self.too_many(60, limited, cycle(9), over(cycle(7), ()))
        self.too_many(60, limited, cycle(59), over(cycle(2), ()))
        self.assertEqual(limited(cycle(10), over(cycle(6), ()))[1][2], 30)
        self.too_many(4000, limited, cycle(2, (), FOUR_THREES), over(cycle(5, (), FOUR_THREES), ()))
        self.assertEqual(limited(one_state(THREE_THREES), over(cycle(11, (), THREE_THREES), ()))[1][2], 11)
        self.too_many(4000, limited, cycle(3, (), (("e", 0), ("f", 3))), over(cycle(7, (), (("e", 0), ("f", 3))), ()))

    def test_errors_in_order(self):
        for thing in ODD:
            self.raises(BadSet, limited, thing, None)
            self.raises(BadReader, limited, one_state(EF), thing)
        self.raises(BadSet, limited, HAND, HAND)
        self.raises(OtherKinds, limited, one_state(ES), HAND)
        self.raises(OtherKinds, limited, cycle(60), over(cycle(60, (), EF), ()))


class Joined(Case):
    def test_by_hand(self):
        told = joined(HAND, HAND)
        self.assertEqual(told[2], 2)
        self.assertEqual(told[4], ((room(0, 0), room(0, 1)),))
        self.assertEqual(told[3][1][0], (HAND[3][1][0][0], (room(0, 1), say("b"), room(0, 1))))
        self.assertEqual(written(told, T), "abaaba")
        self.assertEqual(merged(told)[2], 1)
        self.assertEqual(joined(one=HAND, other=HAND), told)
        # Says of both ends are put together.
        one = over(one_state(EF), (), (room(0, 0), say("a" * 30)))
        other = over(one_state(EF), (), (say("b" * 30), room(0, 0)))
        self.assertEqual(joined(one, other)[4], ((room(0, 0), say("a" * 30 + "b" * 10), say("b" * 20), room(0, 1)),))

    def test_by_words(self):
        choose = chance(4)
        for _ in range(60):
            kinds = random_kinds(choose)
            one, other = [random_reader(choose, random_set(choose, kinds, 3), choose.randint(1, 3), 3) for _ in range(2)]
            told = joined(one, other)
            are_made(self, told)
            self.assertTrue(walked(told[1]))
            self.assertEqual(told[2], one[2] + other[2])
            for tree in every_tree(kinds, 5)[:40]:
                texts = [plain_written(reader, tree) for reader in (one, other)]
                self.assertEqual(plain_written(told, tree), None if None in texts else texts[0] + texts[1])

    def test_bounds(self):
        def wide(rooms, end=(room(0, 0),), trees=one_state(ES)):
            return over(trees, (room(0, 0),), end, rooms)
        self.assertEqual(joined(wide(4), wide(4))[2], 8)
        self.too_many(8, joined, wide(4), wide(5))
        self.too_many(8, joined, wide(8), wide(1))
        self.assertEqual(len(joined(wide(1, (room(0, 0),) * 30), wide(1, (room(0, 0),) * 30))[4][0]), 60)
        self.too_many(60, joined, wide(1, (room(0, 0),) * 31), wide(1, (room(0, 0),) * 30))
        # Two says become one item.
        self.assertEqual(len(joined(wide(1, (room(0, 0),) * 30 + (say("a"),)), wide(1, (say("b"),) + (room(0, 0),) * 29))[4][0]), 60)
        self.too_many(60, joined, wide(1, (room(0, 0),) * 30 + (say("a" * 40),)), wide(1, (say("b"),) + (room(0, 0),) * 29))
        # More than 60 items count only where both have an end.
        two = cycle(2)
        long = [readers_of(two, 1, lambda name, states: ((),), lambda state: (room(0, 0),) * 60 if state == own else None) for own in range(2)]
        self.assertEqual(joined(long[0], long[1])[4], (None, None))
        # States count first, then goals, then rooms, then items.
        self.too_many(60, joined, wide(8, (room(0, 0),) * 60, cycle(61 - 1)), wide(8, (room(0, 0),) * 60, cycle(7)))
        self.too_many(4000, joined, over(cycle(10 // 2, (), FOUR_THREES), (), (room(0, 0),) * 60, 8), over(cycle(2, (), FOUR_THREES), (), (room(0, 0),) * 60, 8))
        self.too_many(8, joined, wide(8, (room(0, 0),) * 60), wide(8, (room(0, 0),) * 60))
        self.assertEqual(joined(wide(1, (), cycle(5)), wide(1, (), cycle(12)))[1][2], 60)
        self.too_many(60, joined, wide(1, (), cycle(8)), wide(1, (), cycle(9)))

    def test_errors_in_order(self):
        for thing in ODD:
            self.raises(BadReader, joined, thing, HAND)
            self.raises(BadReader, joined, HAND, thing)
        self.raises(OtherKinds, joined, HAND, over(one_state(ES), ()))
        self.raises(OtherKinds, joined, over(cycle(60, (), EF), (), (), 8), over(cycle(60), (), (), 8))


class Chosen(Case):
    def test_by_hand(self):
        told = chosen(cycle(2, (1,), EF), HAND, mirrored(over(one_state(EF), (say("c"), room(1, 0)))))
        self.assertEqual(told[2], 2)
        self.assertEqual(told[4], ((room(0, 1),), (room(0, 0),)))
        self.assertEqual(written(told, T), "aba")
        self.assertEqual(written(told, ("f", E, T)), "acc")
        self.assertEqual(chosen(trees=one_state(EF), one=HAND, other=HAND)[4], ((room(0, 0),),))

    def test_by_words(self):
        choose = chance(5)
        for _ in range(60):
            kinds = random_kinds(choose)
            trees = random_set(choose, kinds, 2)
            one, other = [random_reader(choose, random_set(choose, kinds, 2), choose.randint(1, 3), 3) for _ in range(2)]
            told = chosen(trees, one, other)
            are_made(self, told)
            self.assertTrue(walked(told[1]))
            self.assertEqual(told[2], one[2] + other[2])
            for tree in every_tree(kinds, 5)[:40]:
                self.assertEqual(plain_written(told, tree), plain_written(one if is_in_set(trees, tree) else other, tree))

    def test_bounds(self):
        self.assertEqual(chosen(cycle(3), over(cycle(4), ()), over(cycle(5), ()))[1][2], 60)
        self.too_many(60, chosen, cycle(3), over(cycle(4), ()), over(cycle(7), ()))
        self.too_many(60, chosen, cycle(2), over(cycle(31), ()), over(one_state(ES), ()))
        self.too_many(4000, chosen, cycle(2, (), FOUR_THREES), over(one_state(FOUR_THREES), ()), over(cycle(5, (), FOUR_THREES), (), (), 8))
        self.too_many(8, chosen, one_state(ES), over(one_state(ES), (), (), 4), over(one_state(ES), (), (), 5))
        self.assertEqual(len(chosen(one_state(ES), over(one_state(ES), (), (room(0, 0),) * 60), over(one_state(ES), (), (room(0, 0),) * 60))[4][0]), 60)

    def test_errors_in_order(self):
        every = one_state(EF)
        for thing in ODD:
            self.raises(BadSet, chosen, thing, None, None)
            self.raises(BadReader, chosen, every, thing, HAND)
            self.raises(BadReader, chosen, every, HAND, thing)
        other = over(one_state(ES), ())
        self.raises(OtherKinds, chosen, one_state(ES), HAND, HAND)
        self.raises(OtherKinds, chosen, every, other, HAND)
        self.raises(OtherKinds, chosen, every, HAND, other)
        self.raises(OtherKinds, chosen, one_state(EFS), HAND, HAND)


class Folded(Case):
    def test_by_hand(self):
        told = folded(HAND, EF, TURNED)
        self.assertEqual(told[3][1], (((room(1, 0), say("b"), room(1, 0)),),))
        self.assertEqual(told[4], HAND[4])
        self.assertEqual(folded(reader=HAND, kinds=ES, frames=(("e",), ("f", ("f", 0, 0), E)))[3], (
            (((say("a"),),),), (((room(0, 0), say("b"), room(0, 0), say("b"), room(0, 0), say("b"), room(0, 0)),),)))
        self.assertEqual(folded(HAND, ES, (E, 0))[3][1], (((room(0, 0),),),))
        self.assertEqual(folded(HAND, ES, (T, E))[3], ((((say("aba"),),),), (((say("a"),),),)))

    def test_fact(self):
        choose = chance(6)
        many = 0
        for _ in range(150):
            kinds, others = random_kinds(choose), random_kinds(choose)
            frames = random_map(choose, kinds, others)
            reader = random_reader(choose, random_set(choose, others, 3), choose.randint(1, 3), 2)
            try:
                told = folded(reader, kinds, frames)
            except TooMany as error:
                self.assertEqual(error.most, 60)
                many += 1
                continue
            are_made(self, told)
            self.assertTrue(walked(told[1]))
            self.assertEqual(told[2], reader[2])
            for tree in every_tree(kinds, 5)[:30]:
                other = plain_mapped(kinds, frames, tree)
                if nodes_in(other) < 60:
                    self.assertEqual(plain_written(told, tree), plain_written(reader, other))
        self.assertLess(many, 30)

    def test_behind_another_map(self):
        # Folded twice it is folded by both maps, one behind the other.
        choose = chance(7)
        done = 0
        for _ in range(80):
            first, second, third = [random_kinds(choose) for _ in range(3)]
            inner, outer = random_map(choose, first, second), random_map(choose, second, third)
            reader = random_reader(choose, random_set(choose, third, 2), 2, 2)
            try:
                told = folded(folded(reader, second, outer), first, inner)
            except TooMany:
                continue
            done += 1
            for tree in every_tree(first, 4)[:20]:
                other = plain_mapped(second, outer, plain_mapped(first, inner, tree))
                if nodes_in(other) < 60:
                    self.assertEqual(plain_written(told, tree), plain_written(reader, other))
        self.assertGreater(done, 30)

    def test_far_trees(self):
        # What it is mapped to is far too large to be told.
        reader = over(one_state(EF), (say("a"), room(1, 0)))
        told = folded(reader, ES, (E, ("f", 0, 0)))
        self.assertEqual(written(told, comb(59)), "a" * 60)
        self.assertIs(is_tree(EF, balanced(9)), False)

    def rooms_of(self, pieces, frame):
        """What becomes of room 0 of f by a frame."""
        return folded(over(one_state(EF), pieces), EF, (E, frame))[3][1][0][0]

    def test_items(self):
        twice = ("f", ("f", 0, 1), 1)
        # n times what stands below, and m rooms of the other child: n * (n + m) + m items.
        for first, second in ((0, 60), (1, 29), (2, 18), (3, 12), (4, 8), (5, 5), (6, 3), (7, 1)):
            pieces = (room(0, 0),) * first + (room(1, 0),) * second
            self.assertEqual(len(self.rooms_of(pieces, twice)), first * (first + second) + second)
        for first, second in ((1, 30), (2, 20), (3, 13), (4, 9), (5, 6), (6, 4), (7, 2), (8, 0)):
            self.too_many(60, self.rooms_of, (room(0, 0),) * first + (room(1, 0),) * second, twice)
        # Just 60 by three levels: what stands below twice, and a room, and so on, is 3, 7, 15, 31 and 63.
        pieces = (room(0, 0), room(0, 0), room(1, 0))
        frame = ("f", 0, 1)
        for many in (3, 7, 15, 31):
            self.assertEqual(len(self.rooms_of(pieces, frame)), many)
            frame = ("f", frame, 1)
        self.too_many(60, self.rooms_of, pieces, frame)

    def test_says_that_are_put_together(self):
        twice = ("f", ("f", 0, 1), 1)
        self.assertEqual(self.rooms_of((say("b" * 20), room(0, 0)) * 2, ("f", ("f", E, 1), 1)),
                         (say("b" * 40), say("a" + "b" * 20 + "a" + "b" * 18), say("bb" + "b" * 20 + "a" + "b" * 17), say("bbb" + "a")))
        self.assertEqual(len(self.rooms_of((room(0, 0),) * 6 + (say("a"),) * 4, twice)), 6 * 7)
        self.assertEqual(len(self.rooms_of((room(0, 0), say("a" * 40)) * 5, twice)), 5 * 5 + 25 + 5)
        told = self.rooms_of((room(0, 0), say("a" * 20)) * 5 + (say("b"),) * 5, twice)
        self.assertTrue(are_pressed(told))
        self.assertEqual(len(told), 5 * 11)
        # Twice (2 rooms, 26 of the other child, a say), and 26 of it and a say: just 60 with one say less.
        for says, is_let in (((), True), ((say("c"),), False)):
            pieces = (say("c"),) + (room(0, 0),) * 2 + (room(1, 0),) * 17 + says + (room(1, 0),)
            if is_let:
                self.assertEqual(len(self.rooms_of(pieces, twice)), 1 + 21 + 20 + 18)
            else:
                self.too_many(60, self.rooms_of, pieces, twice)

    def test_what_does_not_come_into_it(self):
        # Far too many items in rooms of nodes that are dropped, or that have nothing in them.
        reader = readers_of(one_state(EF), 2, lambda name, states: ((room(0, 0),) * 60, (room(0, 1), say("b"))) if states else ((say("a"),), (say("c"),)), lambda state: (room(0, 1),))
        self.too_many(60, folded, reader, ES, (E, ("f", ("f", 0, E), E)))
        self.assertEqual(folded(reader, ES, (E, ("f", E, ("f", ("f", 0, E), E))))[3][1][0], ((say("a" * 40), say("a" * 20)), (say("cb"),)))
        empty = readers_of(one_state(EF), 8, lambda name, states: tuple((room(0, number),) * 60 for number in range(8)) if states else ((),) * 8, lambda state: (room(0, 7),))
        frame = E
        for _ in range(5):
            frame = ("f", frame, E)
        told = self.within(10, folded, empty, ES, (E, frame))
        self.assertEqual(told[3], ((((),) * 8,), (((),) * 8,)))

    def test_states_and_goals(self):
        sixty = over(cycle(60), (room(0, 0),))
        self.assertEqual(folded(sixty, EF, (E, ("s", 0)))[1][2], 60)
        frames = tuple(E if rank == 0 else ("s", 0) for _, rank in THREE_THREES)
        self.assertEqual(folded(over(cycle(11), ()), THREE_THREES, frames)[1][2], 11)
        self.too_many(4000, folded, over(cycle(12), ()), THREE_THREES, frames)
        frames = tuple(E if rank == 0 else ("s", 0) for _, rank in FOUR_THREES)
        self.too_many(4000, folded, over(cycle(10), (room(0, 0),) * 60), FOUR_THREES, frames)
        self.within(5, self.too_many, 4000, folded, sixty, (("e", 0), ("f", 3)), (E, ("s", 0)))

    def test_errors_in_order(self):
        for thing in ODD:
            self.raises(BadReader, folded, thing, None, None)
            self.raises(BadKinds, folded, HAND, thing, None)
            self.raises(BadMap, folded, HAND, EF, thing)
        self.raises(BadMap, folded, HAND, EF, (E, ("s", 0)))
        self.raises(BadMap, folded, over(cycle(10), ()), FOUR_THREES, (E,))
        for thing in list(wrong_kinds(HAND))[::9]:
            for function, passed in ((mirrored, ()), (spelled, (("", "", ""),)), (folded, (EF, TURNED)), (joined, (HAND,))):
                if not is_reader(thing):
                    self.raises(BadReader, function, thing, *passed)


class AllTogether(Case):
    def test_sizes_of_texts(self):
        # Behind one another: what is limited, chosen, mirrored and spelled still writes what the points say.
        choose = chance(8)
        for _ in range(30):
            kinds = random_kinds(choose)
            trees = random_set(choose, kinds, 2)
            one, other = [random_reader(choose, random_set(choose, kinds, 2), 1, 2) for _ in range(2)]
            told = spelled(mirrored(joined(limited(trees, one), chosen(trees, other, one))), ("ab", "", "c"))
            are_made(self, told)
            for tree in every_tree(kinds, 4)[:20]:
                texts = [plain_written(one, tree), plain_written(other, tree)]
                wanted = None
                if is_in_set(trees, tree) and None not in texts:
                    wanted = (texts[0] + texts[1])[::-1].replace("b", "").replace("a", "ab")
                self.assertEqual(plain_written(told, tree), wanted)

    def test_soon(self):
        choose = chance(9)
        kinds = (("e", 0), ("f", 3))
        trees = set_of(kinds, 15, lambda name, states: (sum(states) + 1) % 15 if states else 0, (0, 3, 7))
        pieces = [tuple(choose.choice((room(choose.randrange(3), choose.randrange(8)), say("abc" * 13))) for _ in range(24)) for _ in range(200)]
        large = readers_of(trees, 8, lambda name, states: tuple(choose.choice(pieces) for _ in range(8)) if states else ((say("a"),),) * 8, lambda state: (room(0, state % 8),))
        for function, passed in ((mirrored, (large,)), (limited, (trees, large)), (folded, (large, kinds, (E, ("f", 2, 1, 0))))):
            told = self.within(20, function, *passed)
            self.assertIs(is_reader(told), True)
        self.too_many(8, joined, large, large)
        self.too_many(60, spelled, large, ("c" * 8, "b" * 8, "a" * 8))
        self.within(20, spelled, large, ("c", "", "a"))
        self.within(20, self.too_many, 60, folded, large, kinds, (E, ("f", ("f", 0, 1, 2), ("f", 1, 1, 1), ("f", 0, 0, 0))))
