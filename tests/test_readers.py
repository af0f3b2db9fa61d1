from helpers import (E, EF, EFS, ES, ODD, Case, balanced, chance, comb, cycle, every_tree, exchanged, left_comb,
                     one_state, plain_state, random_kinds, random_set, readers_of, set_of, wrong_kinds,
                     wrong_lengths)
from samewriting.errors import BadReader, BadTree, NotLetBy
from samewriting.joins import least
from samewriting.readers import domain, is_reader, lets_by, rooms_at, written
from samewriting.sets import is_in

F = ("f", E, E)
HAND = ("reader", one_state(EF)[:4] + ((),), 1,
        ((((("say", "a"),),),), (((("room", 0, 0), ("say", "b"), ("room", 0, 0)),),)), ((("room", 0, 0),),))


def say(letters):
    return ("say", letters)


def room(child, number):
    return ("room", child, number)


def doubling(end, dropped=False):
    """Room 0 has 2 ** n letters after n times s; room 1 has room 0 of the leaf, or nothing."""
    def rule(name, states):
        if name == "e":
            return ((say("a"),), (say("c"),))
        return ((room(0, 0), room(0, 0)), () if dropped else (room(0, 1),))
    return readers_of(one_state(ES), 2, rule, lambda state: end)


class IsReader(Case):
    def test_right_ones(self):
        for reader in (HAND, doubling(None), doubling(()), doubling((say("abc"), say("a"), room(0, 1)))):
            self.assertIs(is_reader(reader), True)
        self.assertIs(is_reader(exchanged(HAND, (1, 4), (0,))), True)

    def test_bounds(self):
        def with_rooms(rooms):
            return readers_of(one_state(ES), rooms, lambda name, states: ((),) * rooms, lambda state: None)
        self.assertIs(is_reader(with_rooms(8)), True)
        self.assertIs(is_reader(with_rooms(9)), False)
        self.assertIs(is_reader(with_rooms(0)), False)

        def with_pieces(pieces):
            return readers_of(one_state(EF), 2, lambda name, states: (pieces, ()) if name == "f" else ((), ()), lambda state: None)

        def with_end(pieces):
            return readers_of(one_state(EF), 2, lambda name, states: ((), ()), lambda state: pieces)
        for made in (with_pieces, with_end):
            self.assertIs(is_reader(made((say("a"),) * 60)), True)
            self.assertIs(is_reader(made((say("a"),) * 61)), False)
            self.assertIs(is_reader(made((room(0, 1),) * 60)), True)
            self.assertIs(is_reader(made((room(0, 1),) * 61)), False)
            self.assertIs(is_reader(made((say("c" * 40),))), True)
            for letters in ("c" * 41, "", "d", "aB", "a ", "a\n", b"a", None, 1, ("a",)):
                self.assertIs(is_reader(made((say(letters),))), False)
            self.assertIs(is_reader(made((room(0, 2),))), False)
            self.assertIs(is_reader(made((room(-1, 0),))), False)
            self.assertIs(is_reader(made((room(0, True),))), False)
        self.assertIs(is_reader(with_pieces((room(1, 0),))), True)
        self.assertIs(is_reader(with_pieces((room(2, 0),))), False)
        self.assertIs(is_reader(with_end((room(1, 0),))), False)
        leaf = readers_of(one_state(EF), 1, lambda name, states: ((room(0, 0),),), lambda state: None)
        self.assertIs(is_reader(leaf), False)

    def test_wrong_ones(self):
        wrong = [value for value in ODD] + [
            list(HAND), HAND[:4], HAND + ((),), ("readers",) + HAND[1:], exchanged(HAND, (2,), 2), exchanged(HAND, (2,), True),
            exchanged(HAND, (4,), ()), exchanged(HAND, (4,), (None, None)), exchanged(HAND, (4, 0), "a"),
            exchanged(HAND, (3, 0, 0, 0, 0), ("say", "a", "b")), exchanged(HAND, (3, 0, 0, 0, 0), ("says", "a")),
            exchanged(HAND, (3, 1, 0, 0, 0), ("room", 0)), exchanged(HAND, (3, 1, 0, 0, 0), ("call", 0, 0)),
            exchanged(HAND, (1,), HAND[1][:4])]
        self.takes_none_of(is_reader, wrong)
        changed = [value for value in wrong_kinds(HAND) if not isinstance(value, tuple) or value[4:] != ((None,),)]
        self.takes_none_of(is_reader, changed)
        self.assertIs(is_reader(exchanged(HAND, (4, 0), None)), True)
        for path, value in wrong_lengths(HAND):
            # Pieces may be longer or shorter.
            pieces = path[:1] == (3,) and len(path) == 4 or path[:1] == (4,) and len(path) == 2
            self.assertIs(is_reader(value), pieces, value)

    def test_all_functions_refuse_what_is_none(self):
        for value in ODD + (HAND[:4], HAND[1]):
            for function in (rooms_at, lets_by, written):
                self.raises(BadReader, function, value, None)
            self.raises(BadReader, domain, value)


class Reading(Case):
    def test_by_hand(self):
        self.assertEqual(written(HAND, F), "aba")
        self.assertEqual(written(HAND, ("f", F, E)), "abababa")
        self.assertEqual(written(HAND, ("f", E, F)), "aba")
        self.assertEqual(rooms_at(HAND, F), (0, ("aba",)))
        self.assertIs(lets_by(HAND, F), True)
        self.assertEqual(domain(HAND), one_state(EF))

    def test_states_and_ends(self):
        trees = set_of(EFS, 2, lambda name, states: 0 if name == "e" else 1)
        reader = readers_of(trees, 2, lambda name, states: ((say("a" * (1 + sum(states))),), tuple(room(child, 0)
                            for child in range(len(states)))), lambda state: (room(0, 1), say("c"), room(0, 0)) if state else None)
        self.assertIs(lets_by(reader, E), False)
        self.raises(NotLetBy, written, reader, E)
        self.assertEqual(rooms_at(reader, E), (0, ("a", "")))
        self.assertEqual(written(reader, ("f", ("s", E), E)), "aacaa")
        self.assertEqual(rooms_at(reader, ("f", ("s", E), ("f", E, ("s", E)))), (1, ("aaa", "aaa")))
        self.assertEqual(domain(reader), ("set", EFS, 2, ((0,), (1, 1, 1, 1), (1, 1)), (1,)))

    def test_bad_trees(self):
        for tree in (None, "e", ["e"], comb(1), ("f", E), left_comb(60)):
            for function in (rooms_at, lets_by, written):
                self.raises(BadTree, function, HAND, tree)

    def test_ten_thousand_letters(self):
        # 40 letters, times 5, times 5, times 10, and one letter more where it is asked for.
        trees = cycle(5)

        def rule(more):
            def told(name, states):
                if name == "e":
                    return ((say("ab" * 20),),)
                last = (say("c"),) * (more if states == (2,) else 0)
                return ((room(0, 0),) * (10 if states == (2,) else 5) + last,)
            return told
        just = readers_of(trees, 1, rule(0), lambda state: (room(0, 0),))
        self.assertEqual(written(just, comb(3)), "ab" * 5000)
        self.assertEqual(rooms_at(just, comb(3)), (3, ("ab" * 5000,)))
        over = readers_of(trees, 1, rule(1), lambda state: (room(0, 0),))
        self.assertEqual(len(written(over, comb(2))), 1000)
        self.too_many(10000, written, over, comb(3))
        self.too_many(10000, rooms_at, over, comb(3))
        end = readers_of(trees, 1, rule(0), lambda state: (room(0, 0), say("b")))
        self.too_many(10000, written, end, comb(3))
        self.assertEqual(len(rooms_at(end, comb(3))[1][0]), 10000)
        self.assertIs(lets_by(over, comb(3)), True)

    def test_long_rooms_that_do_not_come_into_it(self):
        short = doubling((room(0, 1), say("b")))
        self.assertEqual(self.within(5, written, short, comb(59)), "cb")
        self.too_many(10000, rooms_at, short, comb(59))
        self.assertEqual(rooms_at(short, comb(13))[1], ("a" * 8192, "c"))
        self.too_many(10000, rooms_at, short, comb(14))
        self.too_many(10000, written, doubling((room(0, 0),)), comb(14))
        # A child's room is too long, and is dropped: nothing of it comes into the texts of the tree.
        dropping = readers_of(cycle(60), 1, lambda name, states: ((say("a"),),) if name == "e" else
                              ((say("b"),),) if states == (58,) else ((room(0, 0),) * 60,), lambda state: (room(0, 0),))
        self.assertEqual(rooms_at(dropping, comb(59)), (59, ("b",)))
        self.assertEqual(written(dropping, comb(59)), "b")
        self.too_many(10000, rooms_at, dropping, comb(58))

    def test_empty_rooms_put_in_again_and_again(self):
        empty = readers_of(one_state(EF), 8, lambda name, states: tuple((room(0, number),) * 30 + (room(1, number),) * 30
                           for number in range(8)) if states else ((),) * 8, lambda state: (room(0, 7),) * 60)
        self.assertEqual(self.within(10, written, empty, balanced(8)), "")
        self.assertEqual(self.within(10, rooms_at, empty, left_comb(59)), (0, ("",) * 8))

    def test_not_let_by_comes_ahead_of_too_many(self):
        trees = cycle(2)
        reader = readers_of(trees, 1, lambda name, states: ((say("a"),),) if name == "e" else ((room(0, 0),) * 60,),
                            lambda state: None if state else (room(0, 0),))
        self.raises(NotLetBy, written, reader, comb(59))
        self.too_many(10000, written, reader, comb(58))

    def test_chance(self):
        choose = chance(61)
        for _ in range(100):
            kinds = random_kinds(choose)
            trees = random_set(choose, kinds, 3)
            rooms = choose.randint(1, 3)
            ranks = dict(kinds)

            def pieces(rank):
                return tuple(room(choose.randrange(rank), choose.randrange(rooms)) if rank and choose.random() < 0.6 else
                             say("".join(choose.choice("abc") for _ in range(choose.randint(1, 3))))
                             for _ in range(choose.randint(0, 3)))
            reader = readers_of(trees, rooms, lambda name, states: tuple(pieces(ranks[name]) for _ in range(rooms)),
                                lambda state: pieces(1) if choose.random() < 0.7 else None)
            self.assertTrue(is_reader(reader))
            for tree in every_tree(kinds, 4)[:40]:
                self.check(reader, tree)
            takes = tuple(state for state in range(trees[2]) if reader[4][state] is not None)
            self.assertEqual(domain(reader), least(trees[:4] + (takes,)))

    def check(self, reader, tree):
        texts = plain_rooms(reader, tree)
        state = plain_state(reader[1], tree)
        self.assertEqual(rooms_at(reader, tree), (state, texts))
        end = reader[4][state]
        self.assertEqual(lets_by(reader, tree), end is not None)
        self.assertEqual(is_in(domain(reader), tree), end is not None)
        if end is None:
            self.raises(NotLetBy, written, reader, tree)
        else:
            self.assertEqual(written(reader, tree), plain_text(end, [texts]))


def plain_text(pieces, kids):
    return "".join(item[1] if item[0] == "say" else kids[item[1]][item[2]] for item in pieces)


def plain_rooms(reader, tree):
    """The rooms of a tree, told straight from the words of the document."""
    kids = [plain_rooms(reader, child) for child in tree[1:]]
    place = 0
    for child in tree[1:]:
        place = place * reader[1][2] + plain_state(reader[1], child)
    kind = [name for name, _ in reader[1][1]].index(tree[0])
    return tuple(plain_text(pieces, kids) for pieces in reader[3][kind][place])
