import itertools

from helpers import (E, EF, ES, FOUR_THREES, ODD, THREE_THREES, Case, balanced, chance, comb, cycle, every_tree, exchanged, one_state, random_kinds,
                     random_set, readers_of, set_of, wrong_kinds, wrong_lengths)
from templating import (are_pressed, call, plain_called, plain_written, random_reader, random_writer, room, say)
from samewriting.errors import BadReader, BadState, BadTree, BadWriter
from samewriting.readers import is_reader, lets_by, written
from samewriting.turning import as_reader, as_writer
from samewriting.writers import called, is_writer
from test_readers import HAND, doubling

TURNED = ("writer", EF, one_state(EF), (
    (((say("a"),),), ((call(0, 1), say("b"), call(0, 1)),)), (((say("a"),),), ((call(0, 1), say("b"), call(0, 1)),))))


def writer_over(trees, own, rule):
    """The writer with the calls that rule(own state, name, states) tells."""
    rows = tuple(tuple(tuple(rule(state, name, states) for states in itertools.product(range(trees[2]), repeat=rank))
                       for name, rank in trees[1]) for state in range(own))
    return ("writer", trees[1], trees, rows)


class IsWriter(Case):
    def test_right_ones(self):
        self.assertIs(is_writer(TURNED), True)
        choose = chance(1)
        for _ in range(20):
            kinds = random_kinds(choose)
            self.assertIs(is_writer(random_writer(choose, random_set(choose, kinds, 3), choose.randint(1, 8))), True)

    def test_bounds(self):
        def with_own(own):
            return writer_over(one_state(ES), own, lambda state, name, states: None)
        self.assertIs(is_writer(with_own(8)), True)
        self.assertIs(is_writer(with_own(9)), False)
        self.assertIs(is_writer(with_own(0)), False)

        def with_rule(rule):
            return writer_over(one_state(EF), 2, lambda state, name, states: rule if name == "f" else ())
        for rule in ((say("a"),) * 60, (call(1, 1),) * 60, (say("c" * 40),), (), None):
            self.assertIs(is_writer(with_rule(rule)), True)
        for rule in ((say("a"),) * 61, (call(1, 1),) * 61, (say("c" * 41),), (say(""),), (say("d"),), (call(2, 0),), (call(0, 2),),
                     (call(-1, 0),), (call(0, -1),), (call(True, 0),), (call(0, False),), (room(0, 0),), [], "", 0, ("say", "a"),
                     (("call", 0),), (("call", 0, 0, 0),), (("say",),)):
            self.assertIs(is_writer(with_rule(rule)), False)
        # Each rule of each row counts.
        many = writer_over(cycle(3), 2, lambda state, name, states: (call(0, 1),) if states else None)
        for place in range(3):
            self.assertIs(is_writer(exchanged(many, (3, 1, 1, place), None)), True)
            self.assertIs(is_writer(exchanged(many, (3, 1, 1, place), (call(0, 2),))), False)
        self.assertIs(is_writer(exchanged(TURNED, (1,), ES)), False)
        self.assertIs(is_writer(exchanged(TURNED, (1,), (("e", False), ("f", 2)))), False)

    def test_wrong_ones(self):
        self.takes_none_of(is_writer, ODD)
        self.takes_none_of(is_writer, wrong_kinds(TURNED))
        for path, thing in wrong_lengths(TURNED):
            # Another number of own states, of items in a rule or of takes may be right.
            if path not in ((3,), (2, 4)) and (path[0:1] != (3,) or len(path) != 4):
                self.assertIs(is_writer(thing), False, path)
        for thing in ODD:
            self.raises(BadWriter, called, thing, 0, E)
            self.raises(BadWriter, as_reader, thing)


class Called(Case):
    def test_by_words(self):
        choose = chance(2)
        for _ in range(60):
            kinds = random_kinds(choose)
            writer = random_writer(choose, random_set(choose, kinds, 3), choose.randint(1, 4))
            for tree in every_tree(kinds, 5)[:40]:
                for state in range(len(writer[3])):
                    self.assertEqual(called(writer, state, tree), plain_called(writer, state, tree))

    def test_good(self):
        # A tree is good for own state 0 if no s stands right over e.
        writer = writer_over(set_of(ES, 2, lambda name, states: int(name == "s")), 2,
                             lambda state, name, states: (say("a"),) if name == "e" else None if states == (0,) and state == 1 else (call(0, 1),))
        self.assertEqual(called(writer, 0, E), "a")
        self.assertEqual(called(writer, 0, comb(1)), "a")
        self.assertIs(called(writer, 1, comb(1)), None)
        self.assertIs(called(writer, 0, comb(2)), None)

    def test_long_texts(self):
        def doubled(rule):
            return writer_over(one_state(ES), 2, lambda state, name, states: (say("a"),) if name == "e" else (call(0, 1), call(0, 1)) if state else rule)
        self.assertEqual(len(called(doubled((call(0, 1),)), 0, comb(14))), 8192)
        self.too_many(10000, called, doubled((call(0, 1),)), 1, comb(14))
        # What does not come into it may be as long as it likes.
        self.assertEqual(called(doubled(()), 0, comb(59)), "")
        self.too_many(10000, called, doubled(()), 1, comb(59))
        ends = writer_over(one_state(ES), 2, lambda state, name, states: (say("c" * 40),) * 25 if name == "e" else (call(0, 1),) * 10 + (say("b"),) * state)
        self.assertEqual(len(called(ends, 0, comb(1))), 10000)
        self.too_many(10000, called, ends, 1, comb(1))

    def test_errors(self):
        for state in (2, -1, True, None, "0", 0.0, (0,)):
            self.raises(BadState, called, TURNED, state, None)
        self.assertEqual(called(TURNED, 1, E), "a")
        for tree in (None, ("s", E), ("f", E), ["e"], balanced(9)):
            self.raises(BadTree, called, TURNED, 0, tree)
        self.raises(BadWriter, called, exchanged(TURNED, (0,), "reader"), 9, None)
        self.assertEqual(called(writer=TURNED, state=0, tree=("f", E, E)), "aba")


class AsWriter(Case):
    def test_by_hand(self):
        self.assertEqual(as_writer(HAND), ("writer", EF, HAND[1], TURNED[3]))

    def test_writes_the_same(self):
        choose = chance(3)
        for _ in range(60):
            kinds = random_kinds(choose)
            reader = random_reader(choose, random_set(choose, kinds, 3), choose.randint(1, 4))
            writer = as_writer(reader)
            self.assertIs(is_writer(writer), True)
            self.assertEqual(writer[2], reader[1])
            for own in writer[3]:
                for row in own:
                    self.assertTrue(all(rule is None or are_pressed(rule) for rule in row))
            back = as_reader(writer)
            for tree in every_tree(kinds, 5)[:40]:
                self.assertEqual(called(writer, 0, tree), plain_written(reader, tree))
                self.assertEqual(plain_written(back, tree), plain_written(reader, tree))
                self.assertEqual(written(reader, tree) if lets_by(reader, tree) else None, plain_written(reader, tree))

    def test_own_states_are_told(self):
        reader = doubling((say("a"), say("b"), room(0, 1), say("c"), room(0, 0)))
        told = as_writer(reader)[3]
        self.assertEqual(told[0], (((say("abcca"),),), ((say("ab"), call(0, 2), say("c"), call(0, 1), call(0, 1)),)))
        self.assertEqual(told[1], (((say("a"),),), ((call(0, 1), call(0, 1)),)))
        self.assertEqual(told[2], (((say("c"),),), ((call(0, 2),),)))
        self.assertEqual(as_writer(doubling(None))[3][0], ((None,), (None,)))

    def test_pressed_and_cut(self):
        reader = readers_of(one_state(ES), 1, lambda name, states: ((say("a" * 30), say("b" * 30), say("c")),),
                            lambda state: (say("a"), room(0, 0), say("b" * 19)))
        told = as_writer(reader)[3]
        self.assertEqual(told[1][0][0], (say("a" * 30 + "b" * 10), say("b" * 20 + "c")))
        self.assertEqual(told[0][0][0], (say("a" + "a" * 30 + "b" * 9), say("b" * 21 + "c" + "b" * 18), say("b")))

    def test_bounds(self):
        def with_rooms(rooms):
            return readers_of(one_state(ES), rooms, lambda name, states: ((),) * rooms, lambda state: ())
        self.assertEqual(len(as_writer(with_rooms(7))[3]), 8)
        self.too_many(8, as_writer, with_rooms(8))

        def with_items(many, end):
            return readers_of(one_state(ES), 1, lambda name, states: ((room(0, 0),) * many if name == "s" else (),), lambda state: end)
        self.assertEqual(len(as_writer(with_items(20, (room(0, 0),) * 3))[3][0][1][0]), 60)
        self.too_many(60, as_writer, with_items(20, (room(0, 0), say("a"), room(0, 0), room(0, 0))))
        # Says that are put together count once.
        many = readers_of(one_state(ES), 1, lambda name, states: ((say("a"),) * 60,), lambda state: (room(0, 0),) * 40)
        self.assertEqual(len(as_writer(many)[3][0][0][0]), 60)
        many = readers_of(one_state(ES), 1, lambda name, states: ((say("a"),) * 60,), lambda state: (room(0, 0),) * 40 + (say("b"),))
        self.too_many(60, as_writer, many)
        many = readers_of(one_state(ES), 8, lambda name, states: ((say("a"),) * 60,) * 8, lambda state: (room(0, 0),) * 41)
        self.too_many(8, as_writer, many)

    def test_errors(self):
        for thing in ODD + tuple(wrong_kinds(HAND)):
            self.raises(BadReader, as_writer, thing)


class AsReader(Case):
    def test_by_hand(self):
        self.assertEqual(as_reader(TURNED), ("reader", one_state(EF)[:4] + ((0,),), 2, (
            (((say("a"),), (say("a"),)),), (((room(0, 1), say("b"), room(0, 1)), (room(0, 1), say("b"), room(0, 1))),)), ((room(0, 0),),)))

    def test_states_are_pairs_as_met(self):
        writer = writer_over(one_state(ES), 2, lambda state, name, states: None if name == "e" and state else (call(0, 1 - state),) if name == "s" else ())
        # e is good for 0, s(e) for 1, s(s(e)) for 0.
        told = as_reader(writer)
        self.assertEqual(told[1], ("set", ES, 2, ((0,), (1, 0)), (0,)))
        self.assertEqual(told[3], ((((), ()),), (((), (room(0, 0),)), ((room(0, 1),), ()))))
        self.assertEqual(told[4], ((room(0, 0),), None))

    def test_writes_the_same(self):
        choose = chance(4)
        unlike = set()
        for _ in range(60):
            kinds = tuple((name, min(rank, 2)) for name, rank in random_kinds(choose))
            writer = random_writer(choose, random_set(choose, kinds, 3), choose.randint(1, 4))
            reader = as_reader(writer)
            self.assertIs(is_reader(reader), True)
            self.assertEqual(reader[1][4], tuple(state for state, end in enumerate(reader[4]) if end is not None))
            unlike.add(reader[1][2] > writer[2][2])
            for tree in every_tree(kinds, 5)[:40]:
                self.assertEqual(plain_written(reader, tree), plain_called(writer, 0, tree))
            if len(writer[3]) < 8:
                there = as_writer(reader)
                for tree in every_tree(kinds, 4)[:20]:
                    self.assertEqual(plain_called(there, 0, tree), plain_called(writer, 0, tree))
        self.assertEqual(unlike, {True, False})

    def test_bounds(self):
        def going_round(many, ahead):
            # Of n times s just own state n % many is good, of many own states.
            return writer_over(cycle(ahead), many, lambda state, name, states: None if name == "e" and state else
                               () if name == "e" else (call(0, (state - 1) % many),))
        self.assertEqual(as_reader(going_round(6, 10))[1][2], 30)
        self.assertEqual(as_reader(going_round(4, 15))[1][2], 60)
        self.assertEqual(as_reader(going_round(5, 12))[1][2], 60)
        self.too_many(60, as_reader, going_round(7, 9))
        self.too_many(60, as_reader, going_round(8, 59))

    def test_goals(self):
        def levels(kinds, many):
            # Above the leaves each state comes with two lots: below f own state 1 is good.
            ahead = set_of(kinds, many, lambda name, states: min(max(states) + 1, many - 1) if states else 0)
            return writer_over(ahead, 2, lambda state, name, states: None if state and name in "ghi" else ())
        self.assertEqual(as_reader(levels(THREE_THREES, 6))[1][2], 11)
        self.assertEqual(as_reader(levels(FOUR_THREES, 5))[1][2], 9)
        self.too_many(4000, as_reader, levels(FOUR_THREES, 6))

    def test_errors(self):
        for thing in tuple(wrong_kinds(TURNED))[:200]:
            self.raises(BadWriter, as_reader, thing)
        self.assertEqual(as_reader(writer=TURNED), as_reader(TURNED))
        self.assertEqual(as_writer(reader=HAND)[0], "writer")
