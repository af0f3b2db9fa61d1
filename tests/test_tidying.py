import itertools

from helpers import (EF, ES, ODD, Case, chance, cycle, every_tree, one_state, plain_state, random_kinds, random_set, readers_of, set_of,
                     wrong_kinds)
from templating import are_pressed, plain_written, random_reader, room, say
from samewriting.errors import BadReader
from samewriting.readers import is_reader
from samewriting.tidying import merged, tidied
from test_readers import HAND, doubling


def renumbered(reader, order):
    """The same reader, with state k in the place order[k]."""
    trees = reader[1]
    back = [order.index(state) for state in range(trees[2])]
    rows, pieces = [], []
    for (_, rank), goals, held in zip(trees[1], trees[3], reader[3]):
        old = list(itertools.product(range(trees[2]), repeat=rank))
        places = [old.index(tuple(back[state] for state in states)) for states in old]
        rows.append(tuple(order[goals[place]] for place in places))
        pieces.append(tuple(held[place] for place in places))
    made = trees[:3] + (tuple(rows), ())
    return ("reader", made, reader[2], tuple(pieces), tuple(reader[4][back[state]] for state in range(trees[2])))


def plain_uses(reader):
    """The states met, those of use, and the (state, room) of use, again and again through all rows."""
    trees = reader[1]
    met = set()
    while True:
        rows = [(kind, states, place) for kind, (_, rank) in enumerate(trees[1])
                for place, states in enumerate(itertools.product(range(trees[2]), repeat=rank)) if set(states) <= met]
        goals = {trees[3][kind][place] for kind, _, place in rows}
        if goals <= met:
            break
        met |= goals
    states = {state for state in met if reader[4][state] is not None}
    rooms = {(state, item[2]) for state in states for item in reader[4][state] if item[0] == "room"}
    while True:
        many = len(states) + len(rooms)
        for kind, below, place in rows:
            goal = trees[3][kind][place]
            if goal in states:
                states |= set(below)
            for number, pieces in enumerate(reader[3][kind][place]):
                if (goal, number) in rooms:
                    rooms |= {(below[item[1]], item[2]) for item in pieces if item[0] == "room"}
        if many == len(states) + len(rooms):
            return met, states, rooms


class Tidied(Case):
    def test_by_hand(self):
        self.assertEqual(tidied(HAND), HAND[:1] + (HAND[1][:4] + ((0,),),) + HAND[2:])
        # The copies dropped, room 1 is of no use; with none in the end no state is.
        self.assertEqual(tidied(doubling((room(0, 0),)))[2:], (1, ((((say("a"),),),), (((room(0, 0), room(0, 0)),),)), ((room(0, 0),),)))
        self.assertEqual(tidied(doubling((say("a"), room(0, 1), say("b"))))[2:],
                         (1, ((((say("c"),),),), (((room(0, 0),),),)), ((say("a"), room(0, 0), say("b")),)))
        self.assertEqual(tidied(doubling(None))[2:], (1, ((((),),), (((),),)), (None,)))
        self.assertEqual(tidied(doubling((say("a"),)))[2:], (1, ((((),),), (((),),)), ((say("a"),),)))

    def test_states(self):
        # State 3 is never met; 1 and 4 are of no use; 2 is met ahead of 0.
        kinds = (("d", 0), ("e", 0), ("f", 1), ("g", 1))
        trees = set_of(kinds, 5, lambda name, states: {"d": 2, "e": 4}.get(name) if not states else
                       {2: 0, 0: 2, 4: 1, 1: 4, 3: 0}[states[0]] if name == "f" else {2: 2, 0: 4, 4: 4, 1: 1, 3: 3}[states[0]], (1, 3))
        reader = readers_of(trees, 2, lambda name, states: ((say("a"),), (say("b"), say("c"))) if not states else ((room(0, 1),), (room(0, 0), room(0, 1))),
                            lambda state: {0: (room(0, 1),), 3: (room(0, 0),)}.get(state))
        told = tidied(reader)
        self.assertEqual(told[1], ("set", kinds, 3, ((0,), (1,), (2, 1, 0), (0, 1, 1)), (2,)))
        self.assertEqual(told[4], (None, None, (room(0, 1),)))
        self.assertEqual(told[3][0], (((say("a"),), (say("bc"),)),))
        self.assertEqual(told[3][1], (((), ()),))
        # Room 0 is of use at state 0 for what f puts into room 1 of state 2, and there for what comes back.
        self.assertEqual(told[3][2], (((room(0, 1),), (room(0, 0), room(0, 1))), ((), ()), ((room(0, 1),), (room(0, 0), room(0, 1)))))
        self.assertEqual(told[3][3], (((room(0, 1),), (room(0, 0), room(0, 1))), ((), ()), ((), ())))

    def test_against_plain_reckoning(self):
        choose = chance(1)
        unlike = set()
        for _ in range(120):
            kinds = random_kinds(choose)
            reader = random_reader(choose, random_set(choose, kinds, 4 if max(rank for _, rank in kinds) < 3 else 2), choose.randint(1, 4), 2)
            told = tidied(reader)
            self.assertIs(is_reader(told), True)
            met, states, rooms = plain_uses(reader)
            self.assertEqual(told[1][2], len(states) + (states != met))
            kept = sorted({number for _, number in rooms}) or [0]
            self.assertEqual(told[2], len(kept))
            self.assertEqual(told[1][4], tuple(state for state, end in enumerate(told[4]) if end is not None))
            own = {}
            for tree in every_tree(kinds, 5)[:60]:
                self.assertEqual(plain_written(told, tree), plain_written(reader, tree))
                old = plain_state(reader[1], tree)
                own.setdefault(plain_state(told[1], tree), set()).add(old if old in states else None)
            self.assertTrue(all(len(some) == 1 for some in own.values()))
            new_met, new_states, new_rooms = plain_uses(told)
            self.assertEqual(len(new_met), told[1][2])
            for kind, row in enumerate(told[3]):
                for place, held in enumerate(row):
                    for number, pieces in enumerate(held):
                        self.assertTrue(are_pressed(pieces))
                        if (told[1][3][kind][place], number) not in new_rooms:
                            self.assertEqual(pieces, ())
            self.assertEqual(tidied(told), told)
            unlike.add(told == reader[:1] + (reader[1][:4] + told[1][4:],) + reader[2:])
        self.assertEqual(unlike, {True, False})

    def test_numbers_as_a_walk_meets_them(self):
        choose = chance(2)
        for _ in range(60):
            kinds = tuple((name, min(rank, 2)) for name, rank in random_kinds(choose))
            reader = random_reader(choose, random_set(choose, kinds, 4), 2, 2)
            order = list(range(reader[1][2]))
            choose.shuffle(order)
            self.assertEqual(tidied(renumbered(reader, order)), tidied(reader))
            self.assertEqual(merged(renumbered(reader, order)), merged(reader))

    def test_pressed(self):
        reader = readers_of(one_state(ES), 1, lambda name, states: ((say("a" * 30), say("b" * 30)) if name == "e" else (room(0, 0), say("a"), say("b")),),
                            lambda state: (say("c" * 39), say("c"), say("c"), room(0, 0)))
        for function in (tidied, merged):
            told = function(reader)
            self.assertEqual(told[3], ((((say("a" * 30 + "b" * 10), say("b" * 20)),),), (((room(0, 0), say("ab")),),)))
            self.assertEqual(told[4], ((say("c" * 40), say("c"), room(0, 0)),))

    def test_large_ones(self):
        kinds = (("e", 0), ("f", 2), ("s", 1))
        reader = readers_of(cycle(60, (), kinds), 8, lambda name, states: tuple(
            ((say("a"),) if not states else (room(0, (number + 1) % 8), say("b"), room(len(states) - 1, number))) for number in range(8)),
            lambda state: (room(0, 0),) if state % 3 == 0 else None)
        self.assertEqual(self.within(10, tidied, reader)[1][2], 60)
        self.assertEqual(self.within(20, merged, reader)[1][2], 3)

    def test_errors(self):
        for thing in ODD + tuple(wrong_kinds(HAND)):
            self.raises(BadReader, tidied, thing)
            self.raises(BadReader, merged, thing)
        self.assertEqual(tidied(reader=HAND), merged(reader=HAND))


class Merged(Case):
    def test_states(self):
        # States that count to 6 and write by threes alone are 3.
        reader = readers_of(cycle(6), 1, lambda name, states: ((room(0, 0), say("abc"[states[0] % 3])) if states else (),),
                            lambda state: (room(0, 0),) if state % 3 else None)
        told = merged(reader)
        self.assertEqual(told[1], ("set", ES, 3, ((0,), (1, 2, 0)), (1, 2)))
        self.assertEqual(told[3][1], (((room(0, 0), say("a")),), ((room(0, 0), say("b")),), ((room(0, 0), say("c")),)))
        # Unlike ends, goals or pieces keep them apart.
        apart = readers_of(cycle(6), 1, lambda name, states: ((room(0, 0), say("abc"[states[0] % 3])) if states else (),),
                           lambda state: (room(0, 0),) if state < 5 else None)
        self.assertEqual(merged(apart)[1][2], 6)
        apart = readers_of(cycle(6), 1, lambda name, states: ((room(0, 0), say("a" if states[0] == 5 else "b")) if states else (),), lambda state: (room(0, 0),))
        self.assertEqual(merged(apart)[1][2], 6)
        self.assertEqual(merged(readers_of(cycle(6), 1, lambda name, states: ((room(0, 0), say("a")) if states else (),), lambda state: (room(0, 0),)))[1][2], 1)

    def test_rooms(self):
        def joined(first, second):
            return readers_of(one_state(EF), 2, lambda name, states: ((say("a"),), (say("a"),)) if not states else (first, second),
                              lambda state: (room(0, 0), room(0, 1)))
        one = merged(joined((room(0, 0), say("b"), room(0, 0)), (room(0, 1), say("b"), room(0, 1))))
        self.assertEqual(one[2:], (1, HAND[3], ((room(0, 0), room(0, 0)),)))
        # Alike in the greatest relation: each may be told by the other one.
        self.assertEqual(merged(joined((room(0, 1), say("b"), room(0, 0)), (room(0, 0), say("b"), room(0, 1))))[2:], one[2:])
        for second in ((room(0, 1), say("b"), room(1, 1)), (room(0, 1), say("c"), room(0, 1)), (room(0, 1),)):
            self.assertEqual(merged(joined((room(0, 0), say("b"), room(0, 0)), second))[2], 2)

    def test_rooms_in_turn(self):
        # Rooms 0 and 2, 1 and 3 are alike, but not 0 and 1.
        reader = readers_of(one_state(ES), 4, lambda name, states: ((say("a"),), (say("b"),), (say("a"),), (say("b"),)) if not states else
                            ((room(0, 3),), (room(0, 2),), (room(0, 1),), (room(0, 0),)), lambda state: tuple(room(0, number) for number in range(4)))
        self.assertEqual(merged(reader)[2:], (2, ((((say("a"),), (say("b"),)),), (((room(0, 1),), (room(0, 0),)),)),
                                              ((room(0, 0), room(0, 1), room(0, 0), room(0, 1)),)))

    def test_again_and_again(self):
        # States are alike only once rooms are: they write the same by unlike rooms.
        trees = cycle(2)
        reader = readers_of(trees, 2, lambda name, states: ((say("a"),), (say("a"),)) if not states else
                            ((room(0, states[0]), say("b")), (room(0, 1 - states[0]), say("b"))), lambda state: (room(0, 0),))
        self.assertEqual(merged(reader)[1][2], 1)
        self.assertEqual(merged(reader)[2], 1)

    def test_random_ones(self):
        choose = chance(3)
        unlike = set()
        for _ in range(150):
            kinds = tuple((name, min(rank, 2)) for name, rank in random_kinds(choose))
            base = random_reader(choose, random_set(choose, kinds, 2), choose.randint(1, 2), 2)
            with_rooms = choose.random() < 0.5
            reader = self.doubled(choose, base, with_rooms) if choose.random() < 0.7 else base
            told = merged(reader)
            self.assertIs(is_reader(told), True)
            self.assertEqual(merged(told), told)
            self.assertEqual(tidied(told), told)
            if not with_rooms:
                self.assertEqual(told, merged(base))
            self.none_alike(told)
            for tree in every_tree(kinds, 5)[:40]:
                self.assertEqual(plain_written(told, tree), plain_written(reader, tree))
            unlike.add(told[1][2] < tidied(reader)[1][2])
        self.assertEqual(unlike, {True, False})

    def none_alike(self, reader):
        """No two states are alike, and no two rooms: pairs go as long as the words of the document do not hold of them."""
        trees = reader[1]
        pairs = {(one, other) for one in range(trees[2]) for other in range(trees[2]) if reader[4][one] == reader[4][other]}
        rows = []
        for kind, (_, rank) in enumerate(trees[1]):
            every = list(itertools.product(range(trees[2]), repeat=rank))
            rows.extend((states, other, trees[3][kind][place], trees[3][kind][further], reader[3][kind][place] == reader[3][kind][further])
                        for place, states in enumerate(every) for further, other in enumerate(every))
        many = 0
        while many != len(pairs):
            many = len(pairs)
            for states, others, goal, other, equal in rows:
                unlike = [(one, two) for one, two in zip(states, others) if one != two]
                if len(unlike) == 1 and unlike[0] in pairs and not ((goal, other) in pairs and equal):
                    pairs.discard(unlike[0])
        self.assertEqual(len(pairs), trees[2])
        least = [0] * reader[2]
        while True:
            found = []
            for one in range(reader[2]):
                found.append(min(other for other in range(one + 1) if least[other] == least[one] and all(
                    self.told_by(least, held[other]) == self.told_by(least, held[one]) for row in reader[3] for held in row)))
            if found == least:
                break
            least = found
        self.assertEqual(least, list(range(reader[2])))

    def told_by(self, least, pieces):
        return [item if item[0] == "say" else (item[1], least[item[2]]) for item in pieces]

    def doubled(self, choose, reader, with_rooms):
        """The same reader with each state twice, taken by chance, and perhaps each room."""
        trees, rooms = reader[1], reader[2]
        many = trees[2]

        def goal_of(name, states):
            kind = [own for own, _ in trees[1]].index(name)
            place = 0
            for state in states:
                place = place * many + state % many
            return kind, place

        def again(pieces):
            return tuple(item if item[0] == "say" or not with_rooms else (item[0], item[1], item[2] + choose.choice((0, rooms))) for item in pieces)
        made = set_of(trees[1], 2 * many, lambda name, states: trees[3][goal_of(name, states)[0]][goal_of(name, states)[1]] + choose.choice((0, many)))
        return readers_of(made, 2 * rooms, lambda name, states: tuple(
            again(pieces) for pieces in reader[3][goal_of(name, states)[0]][goal_of(name, states)[1]] * 2),
            lambda state: reader[4][state % many])
