from helpers import E, EF, EFS, ES, ODD, Case, balanced, chance, comb, cycle, every_tree, one_state, plain_state, random_kinds, random_set, readers_of, set_of
from shortly import written_out
from templating import plain_rooms, plain_written, random_reader, room, say
from test_readers import HAND
from test_tables import HAND as TABLE, doubled, line, plain_tree, random_table, table
from test_unlike import plain_unlike
from samewriting.errors import BadIndex, BadReader, BadTable, NotLetBy, OtherKinds, TooMany
from samewriting.readers import written
from samewriting.shorts import is_short, length, letter_at, tally
from samewriting.tables import size_told, table_from
from samewriting.unlike import first_unlike
from samewriting.writings import first_unlike_of, long_length, long_tally, writer_at, writing

# Leaves say "a", and each other node "b" between what both children write.
BOTH = readers_of(one_state(EF), 1, lambda name, states: ((room(0, 0), say("b"), room(1, 0)),) if states else ((say("a"),),), lambda state: (say("c"), room(0, 0)))


def part_at(tree, path):
    return part_at(tree[path[0] + 1], path[1:]) if path else tree


def said_at(reader, tree, told):
    """The letter that a place says: from the row of the node there for the room, or from the end of the tree's state."""
    path, room_there, piece, letter = told
    node = part_at(tree, path)
    if room_there is None:
        pieces = reader[4][plain_state(reader[1], tree)]
        assert path == ()
    else:
        place = 0
        for child in node[1:]:
            place = place * reader[1][2] + plain_state(reader[1], child)
        pieces = reader[3][[name for name, _ in reader[1][1]].index(node[0])][place][room_there]
    assert pieces[piece][0] == "say"
    return pieces[piece][1][letter]


def all_writers(reader, tree):
    """For each letter written who says it, by the words of the document."""
    def put_together(pieces, kids, path, own, below):
        told = []
        for number, item in enumerate(pieces):
            if item[0] == "say":
                told.extend((path, own, number, letter) for letter in range(len(item[1])))
            else:
                told.extend(rooms_at(kids[item[1]], below[item[1]])[item[2]])
        return told

    def rooms_at(node, path):
        place = 0
        for child in node[1:]:
            place = place * reader[1][2] + plain_state(reader[1], child)
        held = reader[3][[name for name, _ in reader[1][1]].index(node[0])][place]
        return [put_together(pieces, node[1:], path, own, [path + (step,) for step in range(len(node) - 1)]) for own, pieces in enumerate(held)]
    return put_together(reader[4][plain_state(reader[1], tree)], [tree], (), None, [()])


class Small(Case):
    def test_by_hand(self):
        told = writing(BOTH, TABLE)
        self.assertIs(is_short(told), True)
        self.assertEqual(written_out(told), "cabababa")
        self.assertEqual(long_length(BOTH, TABLE), 8)
        self.assertEqual(long_tally(BOTH, TABLE), (4, 3, 1))
        self.assertEqual(writer_at(BOTH, TABLE, 0), ((), None, 0, 0))
        self.assertEqual(writer_at(BOTH, TABLE, 1), ((0, 0), 0, 0, 0))
        self.assertEqual(writer_at(BOTH, TABLE, 4), ((), 0, 1, 0))
        self.assertEqual(writer_at(BOTH, TABLE, 6), ((1,), 0, 1, 0))
        self.assertEqual(written_out(writing(HAND, TABLE)), written(HAND, balanced(3)))
        self.assertEqual(first_unlike_of(BOTH, HAND, TABLE), 0)
        self.assertIs(first_unlike_of(HAND, HAND, TABLE), None)
        self.assertEqual(written_out(writing(reader=BOTH, table=TABLE)), "cabababa")
        self.assertEqual((long_length(reader=BOTH, table=TABLE), long_tally(reader=BOTH, table=TABLE)), (8, (4, 3, 1)))
        self.assertEqual((writer_at(reader=BOTH, table=TABLE, index=0), first_unlike_of(one=BOTH, other=BOTH, table=TABLE)), (((), None, 0, 0), None))

    def test_by_words(self):
        choose = chance(1)
        let = 0
        for _ in range(200):
            kinds = random_kinds(choose)
            reader = random_reader(choose, random_set(choose, kinds, 3), choose.randint(1, 3), 3)
            told = random_table(choose, kinds, choose.randint(1, 7))
            if size_told(kinds, told) > 40:
                continue
            tree = plain_tree(told)
            text = plain_written(reader, tree)
            if text is None:
                for function in (writing, long_length, long_tally):
                    self.raises(NotLetBy, function, reader, told)
                self.raises(NotLetBy, writer_at, reader, told, None)
                continue
            let += 1
            if len(text) > 3000:
                continue
            made = writing(reader, told)
            self.assertIs(is_short(made), True)
            self.assertEqual(written_out(made), text)
            self.assertEqual(long_length(reader, told), len(text))
            self.assertEqual(long_tally(reader, told), tuple(text.count(letter) for letter in "abc"))
            writers = all_writers(reader, tree)
            for index in range(0, len(text), max(1, len(text) // 30)):
                place = writer_at(reader, told, index)
                self.assertEqual(place, writers[index])
                self.assertEqual(said_at(reader, tree, place), text[index])
            for index in (len(text), -1, None, True, "0", 10 ** 30):
                self.raises(BadIndex, writer_at, reader, told, index)
        self.assertGreater(let, 80)

    def test_first_unlike_of(self):
        choose = chance(2)
        met = {True: 0, False: 0}
        for _ in range(200):
            kinds = random_kinds(choose)
            trees = random_set(choose, kinds, 2)
            one = random_reader(choose, trees, 1, 3)
            other = one[:4] + (tuple(end and end + (say("a"),) * choose.randint(0, 1) for end in one[4]),) if choose.random() < 0.5 else random_reader(choose, trees, 1, 3)
            told = random_table(choose, kinds, choose.randint(1, 6))
            if size_told(kinds, told) > 40:
                continue
            texts = [plain_written(reader, plain_tree(told)) for reader in (one, other)]
            if None in texts:
                self.raises(NotLetBy, first_unlike_of, one, other, told)
                continue
            self.assertEqual(first_unlike_of(one, other, told), plain_unlike(*texts))
            met[texts[0] == texts[1]] += 1
        self.assertGreater(min(met.values()), 15)

    def test_of_all_small_trees(self):
        for tree in every_tree(EFS, 5):
            reader = readers_of(cycle(3, (), EFS), 2, lambda name, states: ((room(0, 1), say("ab"), room(0, 0)), tuple(room(child, 0) for child in range(len(states)))) if states else ((say("c"),), ()),
                                lambda state: (room(0, 0), room(0, 1)) if state != 1 else None)
            told = table_from(EFS, tree)
            if plain_state(reader[1], tree) == 1:
                self.raises(NotLetBy, writing, reader, told)
            else:
                self.assertEqual(written_out(writing(reader, told)), written(reader, tree))

    def test_nothing_written(self):
        empty = readers_of(one_state(EF), 2, lambda name, states: ((room(0, 0), room(1, 1)), ()) if states else ((), ()), lambda state: (room(0, 1), room(0, 0)))
        self.assertEqual(written_out(writing(empty, doubled(400))), "")
        self.assertEqual((long_length(empty, doubled(400)), long_tally(empty, doubled(400))), (0, (0, 0, 0)))
        self.raises(BadIndex, writer_at, empty, doubled(400), 0)
        self.assertIs(first_unlike_of(empty, empty, doubled(400)), None)
        self.assertEqual(first_unlike_of(empty, BOTH, doubled(400)), 0)


class Large(Case):
    def test_very_long_ones(self):
        told = doubled(400)
        leaves = 2 ** 399
        self.assertEqual(self.within(10, long_length, BOTH, told), 2 * leaves)
        self.assertEqual(self.within(10, long_tally, BOTH, told), (leaves, leaves - 1, 1))
        made = self.within(10, writing, BOTH, told)
        self.assertIs(is_short(made), True)
        self.assertEqual((length(made), tally(made)), (2 * leaves, (leaves, leaves - 1, 1)))
        self.assertEqual(self.within(10, writer_at, BOTH, told, 2 * leaves - 1), ((1,) * 399, 0, 0, 0))
        self.assertEqual(writer_at(BOTH, told, 1), ((0,) * 399, 0, 0, 0))
        self.assertEqual(writer_at(BOTH, told, leaves), ((), 0, 1, 0))
        choose = chance(3)
        for _ in range(20):
            index = choose.randrange(2 * leaves)
            path, own, piece, letter = writer_at(BOTH, told, index)
            self.assertEqual("c" if own is None else "a" if len(path) == 399 else "b", letter_at(made, index))
        # A line of 400 rows; the path goes down all of it.
        steps = readers_of(one_state(ES), 1, lambda name, states: ((room(0, 0), say("b")),) if states else ((say("a"),),), lambda state: (room(0, 0),))
        self.assertEqual(written_out(writing(steps, line(400))), "a" + "b" * 399)
        self.assertEqual(writer_at(steps, line(400), 0), ((0,) * 399, 0, 0, 0))
        self.assertEqual(writer_at(steps, line(400), 3), ((0,) * 396, 0, 1, 0))
        copied = readers_of(one_state(ES), 1, lambda name, states: ((room(0, 0),) * 60,) if states else ((say("a" * 40),),), lambda state: (room(0, 0),))
        self.assertEqual(self.within(10, long_length, copied, line(400)), 40 * 60 ** 399)
        self.assertEqual(long_tally(copied, line(400)), (40 * 60 ** 399, 0, 0))

    def test_first_unlike_of_long_ones(self):
        told = doubled(300)
        left = readers_of(one_state(EF), 1, lambda name, states: ((room(0, 0), room(1, 0)),) if states else ((say("ab"),),), lambda state: (room(0, 0),))
        # The same by an own room for each letter; and by one letter less in the end.
        other = readers_of(one_state(EF), 2, lambda name, states: ((room(0, 0), room(1, 0)), (room(1, 1),)) if states else ((say("ab"),), (say("ab"),)), lambda state: (room(0, 0),))
        self.assertIs(self.within(10, first_unlike_of, left, other, told), None)
        more = left[:4] + (((room(0, 0), say("a")),),)
        self.assertEqual(self.within(10, first_unlike_of, left, more, told), 2 ** 300)
        turned = left[:4] + (((say("ab"), room(0, 0)),),)
        self.assertEqual(first_unlike_of(turned, more, told), 2 ** 300 + 1)
        states = set_of(EFS, 2, lambda name, below: 1 if name == "s" else max(below, default=0))
        marked = readers_of(states, 1, lambda name, below: ((room(0, 0), room(1, 0)),) if name == "f" else ((room(0, 0), say("c")),) if name == "s" else ((say("ab"),),), lambda state: (room(0, 0),))
        plain = readers_of(states, 1, lambda name, below: ((room(0, 0), room(1, 0)),) if name == "f" else ((room(0, 0),),) if name == "s" else ((say("ab"),),), lambda state: (room(0, 0),))
        rows = doubled(200)[1] + (("s", 0), ("f", 199, 200), ("f", 199, 201))
        self.assertEqual(first_unlike_of(marked, plain, ("table", rows)), 2 ** 201 + 2)
        self.assertEqual(first_unlike(writing(marked, ("table", rows)), writing(plain, ("table", rows))), 2 ** 201 + 2)

    def test_never_too_many(self):
        # 60 rows, each row of the reader with 20 pieces in all its rooms together, each end with 60.
        choose = chance(4)
        kinds = (("e", 0), ("f", 3))
        for rooms in (1, 2, 5, 8):
            def held(states):
                told = [[] for _ in range(rooms)]
                for number in range(20):
                    own = number % rooms
                    if states and choose.random() < 0.6:
                        told[own].append(room(choose.randrange(3), choose.randrange(rooms)))
                    else:
                        told[own].append(say("".join(choose.choice("abc") for _ in range(choose.choice((1, 40))))))
                return tuple(tuple(pieces) for pieces in told)
            for _ in range(4):
                trees = set_of(kinds, 3, lambda name, states: choose.randrange(3))
                reader = readers_of(trees, rooms, lambda name, states: held(states), lambda state: tuple(choose.choice((room(0, choose.randrange(rooms)), say("abc"))) for _ in range(60)))
                told = random_table(choose, kinds, 60)
                made = self.within(10, writing, reader, told)
                self.assertIs(is_short(made), True)
                self.assertEqual(length(made), long_length(reader, told))
                self.assertEqual(tally(made), long_tally(reader, told))
        # All says of their own, in a line of 60 rows.
        one = readers_of(cycle(60), 1, lambda name, states: (tuple(say(("abc"[place % 3] * (1 + place) + "abc"[state % 3] * state)[:40]) for place in range(19) for state in states) + (room(0, 0),),) if states
                         else ((say("a"),) * 20,), lambda state: tuple(say("b" * (1 + place)) for place in range(39)) + (room(0, 0),) * 21)
        made = writing(one, line(60))
        self.assertIs(is_short(made), True)
        self.assertEqual(length(made), long_length(one, line(60)))

    def test_too_many_rows(self):
        # Far more than 4,000 rows would be wanted; what is told of lengths has no bound.
        choose = chance(5)
        kinds = (("e", 0), ("f", 3))
        reader = readers_of(one_state(kinds), 8, lambda name, states: tuple(tuple(room(choose.randrange(3), choose.randrange(8)) for _ in range(60)) if states else (say("a" * (1 + number)),) for number in range(8)),
                            lambda state: tuple(room(0, number) for number in range(8)))
        told = ("table", (("e",),) + tuple(("f",) + tuple(choose.randrange(max(0, place - 3), place + 1) for _ in range(3)) for place in range(399)))
        self.assertGreater(size_told(kinds, told), 10 ** 20)
        self.within(20, self.too_many, 4000, writing, reader, told)
        self.within(20, self.too_many, 4000, first_unlike_of, reader, reader, told)
        self.assertGreater(self.within(20, long_length, reader, told), 10 ** 100)
        index = self.within(20, long_length, reader, told) // 3
        path, own, piece, letter = self.within(20, writer_at, reader, told, index)
        self.assertTrue(own is not None and letter < 8 and piece == 0)


class Errors(Case):
    def test_errors_in_order(self):
        silent = BOTH[:4] + ((None,),)
        for thing in ODD:
            for function in (writing, long_length, long_tally):
                self.raises(BadReader, function, thing, None)
                self.raises(BadTable, function, silent, thing)
            self.raises(BadReader, writer_at, thing, None, None)
            self.raises(BadTable, writer_at, silent, thing, None)
            self.raises(BadReader, first_unlike_of, thing, None, None)
            self.raises(BadReader, first_unlike_of, BOTH, thing, None)
            self.raises(BadTable, first_unlike_of, silent, silent, thing)
        other = readers_of(one_state(ES), 1, lambda name, states: ((),), lambda state: ())
        self.raises(BadTable, writing, other, TABLE)
        self.raises(BadTable, writing, BOTH, line(3))
        self.raises(OtherKinds, first_unlike_of, BOTH, other, None)
        self.raises(OtherKinds, first_unlike_of, other, silent, TABLE)
        self.raises(BadTable, first_unlike_of, silent, silent, table(("s", 0)))
        for function in (writing, long_length, long_tally):
            self.raises(NotLetBy, function, silent, TABLE)
        self.raises(NotLetBy, writer_at, silent, TABLE, -1)
        self.raises(NotLetBy, first_unlike_of, silent, BOTH, TABLE)
        self.raises(NotLetBy, first_unlike_of, BOTH, silent, TABLE)
        for index in (8, -1, None, True, 0.0, "0", (0,)):
            self.raises(BadIndex, writer_at, BOTH, TABLE, index)

    def test_not_let_by_comes_ahead_of_too_many(self):
        choose = chance(6)
        kinds = (("e", 0), ("f", 3))
        reader = readers_of(one_state(kinds), 8, lambda name, states: tuple(tuple(room(choose.randrange(3), choose.randrange(8)) for _ in range(60)) if states else (say("a"),) for _ in range(8)), lambda state: None)
        told = random_table(choose, kinds, 400)
        self.raises(NotLetBy, writing, reader, told)
        let = reader[:4] + (((room(0, 0),),),)
        self.raises(NotLetBy, first_unlike_of, let, reader, told)
        self.raises(NotLetBy, first_unlike_of, reader, let, told)

    def test_rooms_of_leaves(self):
        self.assertEqual(plain_rooms(BOTH, E), ("a",))
        self.assertEqual(written_out(writing(BOTH, table(("e",)))), "ca")
        self.assertEqual(writer_at(BOTH, table(("e",)), 1), ((), 0, 0, 0))
        self.assertEqual(written(BOTH, E), "ca")
        self.raises(TooMany, written, readers_of(one_state(ES), 1, lambda name, states: ((room(0, 0),) * 60,) if states else ((say("a"),),), lambda state: (room(0, 0),)), comb(59))
