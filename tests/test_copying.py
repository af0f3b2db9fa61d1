import itertools

from helpers import (EF, ES, ODD, Case, at_path, chance, comb, cycle, every_tree, exchanged, nodes_in, one_state, parts_of,
                     plain_state, random_kinds, random_set, readers_of, set_of, wrong_kinds, wrong_lengths)
from templating import place_in, plain_written, random_reader, room, say
from test_readers import HAND, doubling
from test_tidying import plain_uses
from samewriting.copying import copies, is_copies, most_copies
from samewriting.errors import BadReader

BOTH = (("e", 0), ("s", 1), ("t", 1))


def plain_steps(reader):
    """All steps: (state, goal, numbers, step), numbers[x][y] telling how often room x stands in room y."""
    trees, rooms = reader[1], range(reader[2])
    met = plain_uses(reader)[0]
    found = []
    for kind, (name, rank) in enumerate(trees[1]):
        for place, states in enumerate(itertools.product(range(trees[2]), repeat=rank)):
            for at in range(rank):
                if set(states) <= met:
                    held = reader[3][kind][place]
                    numbers = tuple(tuple(held[other].count(("room", at, one)) for other in rooms) for one in rooms)
                    found.append((states[at], trees[3][kind][place], numbers, (name, at, states)))
    return found


def end_counts(reader, state):
    return tuple(reader[4][state].count(("room", 0, number)) for number in range(reader[2]))


def plain_counting(reader, most):
    """The counting of fewest pairs, None if it has more."""
    found = {(state, end_counts(reader, state)) for state in plain_uses(reader)[0] if reader[4][state] is not None}
    steps = plain_steps(reader)
    fresh = sorted(found)
    while fresh:
        pair = fresh.pop()
        for state, goal, numbers, _ in steps:
            if goal == pair[0]:
                further = (state, tuple(sum(many * count for many, count in zip(row, pair[1])) for row in numbers))
                if further not in found:
                    found.add(further)
                    fresh.append(further)
        if len(found) > most:
            return None
    return tuple(sorted(found))


def plain_loop(reader, state, first, second, way):
    """Whether this is a loop, multiplied out."""
    steps = {(name, at, states): (state, goal, numbers) for state, goal, numbers, (name, at, states) in plain_steps(reader)}
    rooms = range(reader[2])
    often = [[int(one == other) for other in rooms] for one in rooms]
    at = state
    for step in way:
        if step not in steps or steps[step][0] != at:
            return False
        at, numbers = steps[step][1:]
        often = [[sum(row[one] * numbers[one][other] for one in rooms) for other in rooms] for row in often]
    if not way or at != state or (state, second) not in plain_uses(reader)[2]:
        return False
    if first == second:
        return often[first][first] >= 2
    return min(often[first][first], often[first][second], often[second][second]) >= 1


def counts_in(reader, tree):
    """The counts of all nodes of a tree that is let by: how often each room's text is put into what is written."""
    trees = reader[1]
    found = []

    def go(node, counts):
        found.append((plain_state(trees, node), counts))
        kind, place = place_in(trees[1], trees[2], node, [plain_state(trees, child) for child in node[1:]])
        for at, child in enumerate(node[1:]):
            held = reader[3][kind][place]
            go(child, tuple(sum(pieces.count(("room", at, one)) * count for pieces, count in zip(held, counts)) for one in range(reader[2])))
    go(tree, end_counts(reader, plain_state(trees, tree)))
    return found


def permuting(many, ends):
    """s puts the rooms round, t exchanges the first two; the end has each room so often."""
    def rule(name, states):
        if not states:
            return ((say("a"),),) * many
        order = list(range(1, many)) + [0] if name == "s" else [1, 0] + list(range(2, many))
        return tuple((room(0, number),) for number in order[:many])
    return readers_of(one_state(BOTH), many, rule, lambda state: tuple(room(0, number) for number, often in enumerate(ends) for _ in range(often)))


def adding(first, second, states=1):
    """s puts room first into room second as well."""
    return readers_of(cycle(states), 3, lambda name, below: ((say("a"),),) * 3 if not below else tuple(
        (room(0, number),) + ((room(0, first),) if number == second else ()) for number in range(3)), lambda state: (room(0, second),))


class Copies(Case):
    def check(self, reader):
        told = copies(reader)
        self.assertIs(is_copies(reader, told), True)
        if told[0] == "endless":
            self.assertTrue(plain_loop(reader, *told[1]))
            self.assertIs(most_copies(reader), None)
        else:
            self.assertEqual(told, ("at most", plain_counting(reader, 2000)))
            self.assertEqual(most_copies(reader), max([count for _, counts in told[1] for count in counts], default=0))
        return told

    def test_by_hand(self):
        self.assertEqual(self.check(HAND)[0], "endless")
        self.assertIs(is_copies(HAND, ("endless", (0, 0, 0, (("f", 0, (0, 0)),)))), True)
        once = readers_of(one_state(EF), 1, lambda name, states: ((room(0, 0), room(1, 0)) if states else (say("a"),),), lambda state: (room(0, 0),) * 3)
        self.assertEqual(self.check(once), ("at most", ((0, (3,)),)))
        # A child may be dropped: then it is put in never.
        left = readers_of(one_state(EF), 1, lambda name, states: ((room(0, 0),) if states else (say("a"),),), lambda state: (room(0, 0),))
        self.assertEqual(self.check(left), ("at most", ((0, (0,)), (0, (1,)))))
        self.assertEqual(self.check(doubling(None)), ("at most", ()))
        self.assertEqual(most_copies(doubling(None)), 0)
        self.assertEqual(self.check(doubling((room(0, 1),) * 2)), ("at most", ((0, (0, 2)),)))
        self.assertEqual(self.check(doubling((room(0, 0),)))[0], "endless")

    def test_adding(self):
        told = self.check(adding(0, 1))
        self.assertEqual((told[0], told[1][1:3]), ("endless", (0, 1)))
        self.assertEqual(self.check(adding(2, 0, 3))[0], "endless")
        # Room 0 is of no use then.
        other = exchanged(adding(0, 1), (4, 0), (room(0, 2),))
        self.assertEqual(self.check(other), ("at most", ((0, (0, 0, 1)),)))
        # With a step that leads on, but never back, copies end.
        rising = set_of(ES, 6, lambda name, states: min(states[0] + 1, 5) if states else 0)
        ending = readers_of(rising, 2, lambda name, states: ((say("a"),), ()) if not states else
                            ((room(0, 0), room(0, 0)), (room(0, 1), room(0, 0))) if states[0] < 5 else ((), ()), lambda state: (room(0, 0), room(0, 1)))
        self.assertEqual(self.check(ending)[0], "at most")
        self.assertEqual(most_copies(ending), 32 + 31)

    def test_long_loops(self):
        # Just one step of seven doubles; and just once in seven steps a room is added to another one.
        seven = cycle(7)
        once = readers_of(seven, 1, lambda name, states: ((room(0, 0),) * (1 + (states[0] == 3)) if states else (say("a"),),), lambda state: (room(0, 0),))
        self.assertEqual(len(self.check(once)[1][3]), 7)
        added = readers_of(seven, 2, lambda name, states: ((room(0, 0),), (room(0, 1),) + ((room(0, 0),) if states[0] == 3 else ())) if states else ((say("a"),),) * 2,
                           lambda state: (room(0, 1),) if state == 5 else None)
        self.assertEqual(len(self.check(added)[1][3]) % 7, 0)
        # Rooms go round: added to another one that comes back by itself after three steps.
        round_of = readers_of(one_state(ES), 4, lambda name, states: ((room(0, 1),), (room(0, 2),), (room(0, 0),), (room(0, 3), room(0, 0))) if states else ((say("a"),),) * 4,
                              lambda state: (room(0, 3),))
        self.assertEqual(self.check(round_of)[0], "endless")

    def test_no_loop_but_two_ways(self):
        # s adds room 0 to room 1, t takes room 0 away: together they never do so twice.
        reader = readers_of(one_state(BOTH), 2, lambda name, states: ((say("a"),), (say("b"),)) if not states else
                            ((), (room(0, 1), room(0, 0))) if name == "s" else ((room(0, 0),), ()), lambda state: (room(0, 1),))
        self.assertEqual(self.check(reader)[0], "at most")
        # s puts room 0 into room 1 and t room 1 into room 0: both at once never.
        reader = readers_of(one_state(BOTH), 2, lambda name, states: ((say("a"),), (say("b"),)) if not states else
                            ((), (room(0, 0),)) if name == "s" else ((room(0, 1),), ()), lambda state: (room(0, 1), room(0, 0)))
        self.assertEqual(self.check(reader)[0], "at most")

    def test_random_ones(self):
        choose = chance(1)
        met = {}
        for number in range(400):
            kinds = tuple((name, min(rank, 2)) for name, rank in random_kinds(choose))
            if number % 2:
                kinds = BOTH
            trees = random_set(choose, kinds, 3)
            rooms = choose.randint(1, 3)
            reader = random_reader(choose, trees, rooms, choose.choice((1, 2)))
            if number % 2:
                # One room of the child mostly, sometimes two: then loops are seldom.
                reader = readers_of(trees, rooms, lambda name, states: tuple(
                    tuple(room(0, choose.randrange(rooms)) for _ in range(choose.choice((0, 1, 1, 1, 1, 2)))) if states else () for _ in range(rooms)),
                    lambda state: (room(0, choose.randrange(rooms)),))
            told = self.check(reader)
            key = told[0] if told[0] == "at most" else (told[1][1] == told[1][2], len(told[1][3]) > 1)
            met[key] = met.get(key, 0) + 1
            if told[0] == "at most":
                known = set(told[1])
                for tree in every_tree(kinds, 5)[:20]:
                    if reader[4][plain_state(trees, tree)] is not None:
                        self.assertLessEqual(set(counts_in(reader, tree)), known)
                        self.length_is_let(reader, tree, most_copies(reader))
        self.assertEqual(set(met), {"at most", (True, True), (True, False), (False, True), (False, False)})

    def length_is_let(self, reader, tree, most):
        """The fact of point 27."""
        def letters(some):
            return sum(len(item[1]) for pieces in some for item in pieces if item[0] == "say")
        rows = max(letters(held) for row in reader[3] for held in row)
        ends = max(letters([end]) for end in reader[4] if end is not None)
        self.assertLessEqual(len(plain_written(reader, tree)), nodes_in(tree) * most * rows + ends)

    def test_loops_bring_as_many_as_told(self):
        for reader in (adding(0, 1), doubling((room(0, 0),))):
            _, (state, first, second, way) = copies(reader)
            for times in (1, 3, 6):
                tree = comb(times * len(way))
                self.assertGreaterEqual(counts_in(reader, tree)[-1][1][first], times)

    def test_bounds(self):
        # So many pairs as there are sequences of unlike numbers.
        self.assertEqual(len(self.check(permuting(6, (0, 1, 2, 3, 4, 5)))[1]), 720)
        self.assertEqual(most_copies(permuting(6, (0, 1, 2, 3, 4, 5))), 5)
        for function in (copies, most_copies):
            self.within(10, self.too_many, 2000, function, permuting(7, (0, 1, 2, 3, 4, 5, 6)))
            self.within(10, self.too_many, 2000, function, permuting(8, (0, 1, 2, 3, 4, 5, 6, 7)))

        def falling(many, more):
            # Of n times s the counts are 1 or n at most, for two rooms, n falling down.
            trees = set_of(BOTH, 10, lambda name, states: min(states[0] + 1, 9) if states else 0)
            return readers_of(trees, 2, lambda name, states: ((say("a"),), ()) if not states else ((room(0, 0),) * (2 if name == "s" else 3), (room(0, 1),)) if states[0] < 9 - more else ((), ()),
                              lambda state: (room(0, 0), room(0, 1)))
        for more in (0, 3):
            self.assertEqual(self.check(falling(10, more))[0], "at most")

    def test_just_two_thousand(self):
        # From an end with a number of its own at state k, 2 and 3 times it at each step down, come 1 + 2 + .. + (k + 1) pairs.
        trees = set_of(BOTH, 60, lambda name, states: min(states[0] + 1, 59) if states else 0)

        def falling(ends):
            return readers_of(trees, 1, lambda name, states: ((room(0, 0),) * (2 if name == "s" else 3) if states else (say("a"),),),
                              lambda state: (room(0, 0),) * ends[state] if state in ends else None)
        just = falling({58: 1, 18: 5, 7: 7, 1: 11, 0: 13})
        told = copies(just)
        self.assertEqual((told[0], len(told[1])), ("at most", 2000))
        self.assertEqual(told[1], plain_counting(just, 2000))
        self.assertIs(is_copies(just, told), True)
        self.assertEqual(most_copies(just), 3 ** 58)
        more = falling({58: 1, 19: 5, 5: 7})
        self.assertEqual(len(plain_counting(more, 2001)), 2001)
        self.too_many(2000, copies, more)
        self.too_many(2000, most_copies, more)
        # The judge knows no such bound.
        self.assertIs(is_copies(more, ("at most", plain_counting(more, 2001))), True)

    def test_many_pairs_without_a_loop(self):
        # By u room 0 comes into 1 and 3, and 2 into 3; back come 1 by p alone, 3 by q alone: never both.
        kinds = (("e", 0), ("p", 1), ("q", 1), ("s", 1), ("t", 1), ("u", 1))
        into = {"u": {1: (0,), 3: (0, 2)}, "p": {0: (1,)}, "q": {2: (3,)}}

        def rule(name, states):
            if not states:
                return ((say("a"),),) * 8
            mine = into.get(name, {number: (number,) for number in range(4)})
            others = {"s": (5, 6, 7, 4), "t": (5, 4, 6, 7)}.get(name, (4, 5, 6, 7))
            return tuple(tuple(room(0, other) for other in mine.get(number, ())) for number in range(4)) + tuple((room(0, other),) for other in others)
        ends = tuple(room(0, number) for number in (0, 1, 2, 3, 3, 5, 6, 6, 7, 7, 7))
        reader = readers_of(cycle(20, (), kinds), 8, rule, lambda state: ends)
        self.assertGreater(len(plain_counting(reader, 10 ** 5)), 2000)
        self.too_many(2000, copies, reader)
        fewer = readers_of(one_state(kinds), 8, rule, lambda state: ends)
        self.assertEqual(self.check(fewer)[0], "at most")

    def test_dense_ones(self):
        choose = chance(2)
        kinds = (("e", 0), ("f", 2), ("s", 1))
        reader = readers_of(cycle(30, (), kinds), 8, lambda name, states: tuple(
            tuple(room(choose.randrange(len(states)), choose.randrange(8)) for _ in range(6)) if states else () for _ in range(8)),
            lambda state: tuple(room(0, number) for number in range(8)))
        self.assertIs(is_copies(reader, self.within(20, copies, reader)), True)
        turning = readers_of(cycle(40, (), kinds), 8, lambda name, states: tuple(
            (room(0, (number + states[0]) % 8),) if len(states) == 1 or sum(states) % 3 else (room(1, (1, 0, 2, 3, 4, 5, 6, 7)[number]),) if states else ()
            for number in range(8)) if states else ((),) * 8, lambda state: tuple(room(0, number) for number in range(8) for _ in range(number)))
        self.within(20, self.too_many, 2000, copies, turning)

    def test_errors(self):
        for function, further in ((copies, ()), (most_copies, ()), (is_copies, (None,))):
            for thing in ODD + tuple(wrong_kinds(HAND)):
                self.raises(BadReader, function, thing, *further)
        self.assertIs(is_copies(reader=HAND, thing=copies(reader=HAND)), True)
        self.assertIs(most_copies(reader=HAND), None)


class IsCopies(Case):
    finite = readers_of(cycle(2), 2, lambda name, states: ((room(0, 1),), (room(0, 0),)) if states else ((say("a"),), (say("b"),)),
                        lambda state: (room(0, 0), room(0, 0), room(0, 1)) if state else None)

    def test_countings(self):
        told = copies(self.finite)
        self.assertEqual(told, ("at most", ((0, (1, 2)), (1, (2, 1)))))
        self.assertIs(is_copies(self.finite, told), True)
        for thing in ODD + tuple(wrong_kinds(told)):
            self.assertIs(is_copies(self.finite, thing), False, thing)
            self.assertIs(is_copies(self.finite, ("at most", thing)), False, thing)
        for path, thing in wrong_lengths(told):
            self.assertIs(is_copies(self.finite, thing), False, path)
        for path in parts_of(told):
            number = at_path(told, path)
            if isinstance(number, int):
                for other in (number + 1, number - 1, -number - 1, 7):
                    self.assertIs(is_copies(self.finite, exchanged(told, path, other)), False)
        self.assertIs(is_copies(self.finite, ("at most", told[1][::-1])), False)
        self.assertIs(is_copies(self.finite, ("endless", told[1])), False)
        # Any counting that is closed will do.
        more = tuple(sorted(told[1] + ((0, (5, 0)), (1, (0, 5)))))
        self.assertIs(is_copies(self.finite, ("at most", more)), True)
        self.assertIs(is_copies(self.finite, ("at most", told[1] + ((1, (7, 0)),))), False)
        self.assertIs(is_copies(self.finite, ("at most", tuple(sorted(told[1] + ((0, (1, 1)), (1, (1, 1))))))), True)
        self.assertIs(is_copies(self.finite, ("at most", told[1] + ((2, (0, 0)),))), False)
        self.assertIs(is_copies(self.finite, ("at most", ((-1, (0, 0)),) + told[1])), False)
        self.assertIs(is_copies(self.finite, ("at most", ())), False)
        self.assertIs(is_copies(doubling(None), ("at most", ())), True)
        self.assertIs(is_copies(doubling(None), ("at most", ((0, (0, 0)),))), True)
        self.assertIs(is_copies(doubling(None), ("at most", ((0, (0, -1)),))), False)
        self.assertIs(is_copies(HAND, ("at most", ((0, (0,)), (0, (1,)), (0, (2,))))), False)

    def test_loops(self):
        reader = adding(0, 1, 2)
        told = copies(reader)
        self.assertEqual(told[0], "endless")
        for thing in wrong_kinds(told):
            self.assertIs(is_copies(reader, thing), False)
        for path, thing in wrong_lengths(told):
            # Gone twice it is a loop too.
            if path != (1, 3):
                self.assertIs(is_copies(reader, thing), False, path)
        for loop in itertools.product((0, 1, 2), range(-1, 4), range(-1, 4), ((), (("s", 0, (0,)),), (("s", 0, (0,)), ("s", 0, (1,))),
                                      (("s", 0, (1,)), ("s", 0, (0,))), (("s", 0, (0,)), ("s", 0, (1,))) * 3, (("s", 0, (0,)), ("s", 0, (0,))),
                                      (("s", 1, (0,)),), (("s", -1, (0,)), ("s", 0, (1,))), (("e", 0, ()),), (("s", 0, (-2,)), ("s", 0, (-1,))), (("s", 0, (0, 1)),), (("x", 0, (0,)),), (("s", 0, (2,)),))):
            wanted = loop[0] < 2 and 0 <= loop[1] < 3 and 0 <= loop[2] < 3 and plain_loop(reader, *loop)
            self.assertIs(is_copies(reader, ("endless", loop)), wanted, loop)

    def test_rooms_of_loops(self):
        reader = adding(2, 0)
        way = (("s", 0, (0,)),)
        self.assertIs(is_copies(reader, ("endless", (0, 2, 0, way))), True)
        for first, second in ((-1, 0), (2, -3), (True, 0), (2, False), (None, 0), (3, 0), (2, 3)):
            self.assertIs(is_copies(reader, ("endless", (0, first, second, way))), False)
        for state in (1, -1, False, None):
            self.assertIs(is_copies(reader, ("endless", (state, 2, 0, way))), False)

    def test_loops_of_no_use(self):
        # Room 0 doubles, but comes into nothing that is written.
        reader = doubling((room(0, 1),))
        self.assertIs(is_copies(reader, ("endless", (0, 0, 0, (("s", 0, (0,)),)))), False)
        self.assertIs(is_copies(doubling((room(0, 0),)), ("endless", (0, 0, 0, (("s", 0, (0,)),)))), True)
        # States that no tree has.
        unmet = readers_of(set_of(ES, 2, lambda name, states: states[0] if states else 0), 1, lambda name, states: ((room(0, 0),) * (1 + states[0]) if states else (),),
                           lambda state: (room(0, 0),))
        self.assertEqual(copies(unmet)[0], "at most")
        self.assertIs(is_copies(unmet, ("endless", (1, 0, 0, (("s", 0, (1,)),)))), False)
        beside = readers_of(set_of(EF, 2, lambda name, states: states[0] if states else 0), 1, lambda name, states: ((room(0, 0),) * (1 + states[1]) if states else (),),
                            lambda state: (room(0, 0),))
        self.assertIs(is_copies(beside, ("endless", (0, 0, 0, (("f", 0, (0, 1)),)))), False)

    def test_long_ways(self):
        reader = doubling((room(0, 0),))
        self.assertIs(self.within(5, is_copies, reader, ("endless", (0, 0, 0, (("s", 0, (0,)),) * 20000))), True)
