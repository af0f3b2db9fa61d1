import itertools

from helpers import (E, EF, ES, FOUR_HUNDRED, FOUR_THREES, ODD, THREE_THREES, Case, at_path, balanced, chance, comb, cycle, every_tree, exchanged, nodes_in,
                     of_parts, one_state, parts_of, random_kinds, random_set, readers_of, set_of, wrong_kinds, wrong_lengths)
from machining import (all_texts, length_by, plain_row, plain_scribed, plain_sign, plain_takes, random_scribe, random_words, up_to)
from templating import are_pressed, plain_written, random_reader, room, say
from samewriting.composing import composed
from samewriting.errors import BadReader, BadScribe, BadWords, TooMany
from samewriting.joins import inside, least
from samewriting.readers import domain, is_reader
from samewriting.scribes import one_behind, pulled
from samewriting.sets import is_set
from samewriting.types import always, is_answer, signs, within
from test_readers import HAND, doubling
from test_wordmachines import DOUBLE, EVEN

EFF = (("e", 0), ("f", 1))
BY_HAND = ("reader", ("set", EFF, 1, ((0,), (0,)), ()), 1,
           ((((say("a"),),),), (((room(0, 0), room(0, 0)),),)), ((room(0, 0),),))


def lengthening(trees, step=1, end=(room(0, 0),)):
    """One room that gets so many letters for each node above a leaf."""
    return readers_of(trees, 1, lambda name, states: ((room(0, 0),) + (say("a"),) * step if states else (),), lambda state: end)


def too_many_of(function, *passed):
    try:
        return function(*passed), None
    except TooMany as error:
        return None, error.most


class Signs(Case):
    def test_by_hand(self):
        self.assertEqual(signs(BY_HAND, EVEN), ((0, ((0, 1),)), (0, ((1, 0),))))
        self.assertEqual(signs(doubling(None), all_texts()), ((0, ((0,), (0,))),))

    def test_by_words(self):
        choose = chance(1)
        for _ in range(80):
            kinds = random_kinds(choose)
            reader = random_reader(choose, random_set(choose, kinds, 3), choose.randint(1, 2))
            words = random_words(choose, choose.randint(1, 3))
            told, most = too_many_of(signs, reader, words)
            wanted = self.plain(reader, words)
            if told is None:
                self.assertEqual(most, 400)
                self.assertGreater(len(wanted), 400)
            else:
                self.assertEqual(told, wanted)
                for tree in every_tree(kinds, 5)[:40]:
                    self.assertIn(plain_sign(reader, words[1], tree), told)

    def plain(self, reader, words):
        """All signs, again and again through all rows, until there are more than 400."""
        trees = reader[1]
        found = set()
        while True:
            many = len(found)
            for kind, (_, rank) in enumerate(trees[1]):
                for kids in itertools.product(sorted(found), repeat=rank):
                    place = 0
                    for state, _ in kids:
                        place = place * trees[2] + state
                    rooms = tuple(self.row_told(pieces, kids, len(words[1]), words[1]) for pieces in reader[3][kind][place])
                    found.add((trees[3][kind][place], rooms))
                    if len(found) > 400:
                        return tuple(sorted(found))
            if len(found) == many:
                return tuple(sorted(found))

    def row_told(self, pieces, kids, many, rows):
        told = []
        for row in range(many):
            for item in pieces:
                row = plain_row(rows, row, item[1]) if item[0] == "say" else kids[item[1]][1][item[2]][row]
            told.append(row)
        return tuple(told)

    def test_bounds(self):
        # So many states times so many effects, without a common factor.
        self.assertEqual(len(signs(lengthening(cycle(57)), length_by(7, ()))), 399)
        self.too_many(400, signs, lengthening(cycle(59)), length_by(7, ()))
        both = ("words", tuple(((row + 1) % 5, row, row) if row < 5 else (row, 5 + (row - 4) % 3, row) for row in range(8)), ())
        two = (("e", 0), ("s", 1), ("t", 1))

        def counting(states):
            # s counts a up to 5 and t counts b up to 3, round and round.
            return readers_of(cycle(states, (), two), 1, lambda name, below: ((room(0, 0), say("a" if name == "s" else "b")) if below else (),),
                              lambda state: None)
        self.assertEqual(len(signs(counting(1), both)), 15)
        self.assertEqual(len(signs(counting(26), both)), 390)
        self.too_many(400, signs, counting(27), both)
        twenty = set_of(ES, 50, lambda name, states: (states[0] + 1) % 50 if states else 0)
        self.assertEqual(len(signs(lengthening(twenty), length_by(8, ()))), 200)

        def steps(more):
            # e, n and m begin apart: 50 states, 8 effects, and one sign more if wanted.
            kinds = (("e", 0), ("m", 0), ("n", 0), ("s", 1), ("t", 1))
            trees = set_of(kinds, 51, lambda name, states: (50 if more else 0) if name == "m" else 0 if not states else
                           (states[0] + (name == "s")) % 50 if states[0] < 50 else 50)
            return readers_of(trees, 1, lambda name, states: ((room(0, 0), say("a")) if name == "t" and states[0] < 50 else (room(0, 0),) if states else (),),
                              lambda state: None)
        self.assertEqual(len(signs(steps(False), length_by(8, ()))), 400)
        for function in (signs, always):
            self.too_many(400, function, steps(True), length_by(8, ()))

    def test_three_children(self):
        kinds = (("e", 0), ("f", 3), ("s", 1))

        def mixing(rooms, trees):
            return readers_of(trees, rooms, lambda name, states: tuple(
                (say("abc"[number % 3]),) if name == "e" else (room(0, (number + 1) % rooms), say("ab")) if name == "s" else
                (room(0, number), room(1, (number + 1) % rooms), room(2, number)) for number in range(rooms)), lambda state: (room(0, 0),))
        words = ("words", tuple(((row + 1) % 8, (row + 3) % 8, row) for row in range(8)), tuple(range(8)))
        told = self.within(10, signs, mixing(3, one_state(kinds)), words)
        self.assertEqual(len(told), 128)
        self.assertIs(self.within(10, is_answer, mixing(3, one_state(kinds)), words, ("always", told)), True)
        self.within(10, self.too_many, 60, within, mixing(3, one_state(kinds)), words)
        shuffling = ("words", tuple(((row + 1) % 8, (row + 2) % 8 if row % 2 else row, (row * 3 + 1) % 8) for row in range(8)), ())
        self.within(10, self.too_many, 400, always, mixing(3, one_state(kinds)), shuffling)

    def test_errors(self):
        for function, further in ((signs, ()), (within, ()), (always, ()), (is_answer, (None,))):
            for thing in ODD + tuple(wrong_kinds(BY_HAND)):
                self.raises(BadReader, function, thing, None, *further)
            for thing in ODD + tuple(wrong_kinds(EVEN)):
                self.raises(BadWords, function, BY_HAND, thing, *further)
        self.assertEqual(signs(reader=BY_HAND, words=EVEN), signs(BY_HAND, EVEN))


class Within(Case):
    def test_by_words(self):
        choose = chance(2)
        done = 0
        for _ in range(100):
            kinds = random_kinds(choose)
            reader = random_reader(choose, random_set(choose, kinds, 2), choose.randint(1, 2), 2)
            words = random_words(choose, choose.randint(1, 3))
            told, most = too_many_of(within, reader, words)
            if told is None:
                self.assertIn(most, (60, 4000))
                continue
            done += 1
            self.assertTrue(is_set(told) and least(told) == told)
            for tree in every_tree(kinds, 5)[:40]:
                text = plain_written(reader, tree)
                self.assertIs(self.is_in(told, tree), text is not None and plain_takes(words, text))
            # The fact of point 62.
            answer, _ = too_many_of(always, reader, words)
            self.assertEqual(answer[0] == "always", inside(domain(reader), told) is None)
        self.assertGreater(done, 50)

    def is_in(self, trees, tree):
        return plain_sign(("reader", trees, 1, tuple(tuple(((),) for _ in row) for row in trees[3]), ()), ((0,) * 3,), tree)[0] in trees[4]

    def test_bounds(self):
        self.assertEqual(within(lengthening(cycle(12)), length_by(5, (0,)))[2], 5)
        self.assertEqual(len(signs(lengthening(cycle(20)), length_by(3, (0,)))), 60)
        self.assertEqual(within(lengthening(cycle(20)), length_by(3, (0,)))[2], 3)
        two = (("e", 0), ("n", 0), ("s", 1))

        def with_leaf(more):
            trees = set_of(two, 13, lambda name, states: (12 if more else 0) if name == "n" else 0 if not states else (states[0] + 1) % 12 if states[0] < 12 else 12)
            return readers_of(trees, 1, lambda name, states: ((room(0, 0), say("a")) if states and states[0] < 12 else (),), lambda state: (room(0, 0),))
        self.assertEqual(within(with_leaf(False), length_by(5, (0,)))[2], 5)
        self.too_many(60, within, with_leaf(True), length_by(5, (0,)))
        # Goals of 10 signs with four kinds of rank 3 are 4001; of 11 with three 3996.
        ten = readers_of(one_state(FOUR_THREES), 2, lambda name, states: ((room(0, 0), say("a")), (room(0, 1),) if name == "f" else (say("b"),)) if states else ((), ()),
                         lambda state: (room(0, 0),))
        self.too_many(4000, within, ten, length_by(8, (0,)))

        def going(kinds, many):
            return readers_of(set_of(kinds, 1, lambda name, states: 0), 1, lambda name, states: ((room(0, 0), say("a")) if states else (),), lambda state: (room(0, 0),))
        self.assertEqual(within(going(FOUR_THREES, 8), length_by(8, (0,)))[2], 8)
        self.too_many(60, within, lengthening(cycle(59)), length_by(7, ()))

    def test_eleven_signs(self):
        # Four leaves and seven signs further.
        def rule(name, states):
            return ((room(0, 0), say("a")),) if states and states[0] == 0 else ((),)
        trees = set_of(THREE_THREES, 4, lambda name, states: "cde".index(name) if name in "cde" else 0 if states[0] == 0 else 3)
        reader = readers_of(trees, 1, rule, lambda state: (room(0, 0),))
        self.assertEqual(len(signs(reader, length_by(8, (0,)))), 11)
        self.assertTrue(is_set(within(reader, length_by(8, (0,)))))
        trees = set_of(FOUR_THREES, 4, lambda name, states: 0 if name == "e" or states[0] == 0 and name != "i" else min(3, 1 + states[0]))
        reader = readers_of(trees, 1, rule, lambda state: (room(0, 0),))
        self.assertGreater(len(signs(reader, length_by(8, (0,)))), 9)
        self.too_many(4000, within, reader, length_by(8, (0,)))


class Always(Case):
    def check(self, reader, words):
        told = always(reader, words)
        self.assertIs(is_answer(reader, words, told), True)
        return told

    def test_by_hand(self):
        self.assertEqual(self.check(BY_HAND, EVEN), ("not", E))
        self.assertEqual(self.check(BY_HAND, all_texts())[0], "always")
        # All but the leaf have texts of an even number of letters.
        above = exchanged(BY_HAND, (1,), ("set", EFF, 2, ((0,), (1, 1)), ()))
        above = ("reader", above[1], 1, (above[3][0], above[3][1] * 2), (None, (room(0, 0),)))
        self.assertEqual(self.check(above, EVEN), ("always", signs(above, EVEN)))
        self.assertEqual(self.check(HAND, ("words", ((1, 0, 0), (1, 0, 0)), (1,)))[0], "always")
        self.assertEqual(self.check(HAND, ("words", ((0, 1, 0), (0, 2, 0), (2, 2, 2)), (0, 1)))[0], "always")
        # What stands on the right is not seen: "a", "aba", then 7 letters.
        self.assertEqual(self.check(HAND, up_to(6))[1], ("f", ("f", E, E), E))

    def test_least_tree(self):
        choose = chance(3)
        words_met = set()
        for _ in range(150):
            kinds = random_kinds(choose)
            reader = random_reader(choose, random_set(choose, kinds, 2), choose.randint(1, 2))
            words = random_words(choose, choose.randint(1, 3))
            told, most = too_many_of(always, reader, words)
            if told is None:
                self.assertEqual(most, 400)
                continue
            self.assertIs(is_answer(reader, words, told), True)
            words_met.add(told[0])
            trees = every_tree(kinds, 6)[:300]
            wrong = [tree for tree in trees if plain_written(reader, tree) is not None and not plain_takes(words, plain_written(reader, tree))]
            if wrong:
                self.assertEqual(told, ("not", wrong[0]))
            elif told[0] == "not":
                self.assertGreaterEqual(nodes_in(told[1]), nodes_in(trees[-1]))
                text = plain_written(reader, told[1])
                self.assertTrue(text is not None and not plain_takes(words, text))
            else:
                self.assertEqual(told[1], signs(reader, words))
        self.assertEqual(words_met, {"always", "not"})

    def test_order_of_equal_sizes(self):
        kinds = (("e", 0), ("f", 2), ("g", 3), ("n", 0), ("s", 1))
        choose = chance(4)
        for _ in range(60):
            reader = random_reader(choose, random_set(choose, kinds, 3), 1, 3)
            words = random_words(choose, 3)
            told, _ = too_many_of(always, reader, words)
            trees = [tree for tree in every_tree(kinds, 5)
                     if plain_written(reader, tree) is not None and not plain_takes(words, plain_written(reader, tree))]
            if trees and told:
                self.assertEqual(told[1], trees[0])

    def test_bounds(self):
        def at_height(many):
            # No text of a tree of so many nodes is taken, all others are.
            trees = set_of(ES, many + 1, lambda name, states: min(states[0] + 1, many) if states else 0)
            return readers_of(trees, 1, lambda name, states: ((),), lambda state: (say("a"),) if state == many - 1 else ())
        none = ("words", ((1, 1, 1), (1, 1, 1)), (0,))
        self.assertEqual(self.check(at_height(59), none), ("not", comb(58)))
        trees = set_of(ES, 60, lambda name, states: min(states[0] + 1, 59) if states else 0)
        deep = readers_of(trees, 1, lambda name, states: ((),), lambda state: (say("a"),) if state == 59 else ())
        self.assertEqual(self.check(deep, none), ("not", comb(59)))
        # Of 61 nodes: 31 states and a text that counts them in twos.
        deeper = readers_of(trees, 1, lambda name, states: ((room(0, 0), say("a")) if states and states[0] == 59 else (),), lambda state: (room(0, 0),))
        self.too_many(60, always, deeper, none)
        large = of_parts((("e", 0), ("f", 2), ("s", 1)), FOUR_HUNDRED)
        told = self.check(readers_of(large, 1, lambda name, states: ((),), lambda state: (say("a"),) if state == 10 else ()), none)
        self.assertEqual(nodes_in(told[1]), 400)
        larger = of_parts((("e", 0), ("f", 2), ("s", 1)), FOUR_HUNDRED + (("s", 10),))
        self.too_many(400, always, readers_of(larger, 1, lambda name, states: ((),), lambda state: (say("a"),) if state == 11 else ()), none)
        doubled = set_of(EF, 41, lambda name, states: 0 if not states else min(states[0] + 1, 40) if states[0] == states[1] else 40)
        far = readers_of(doubled, 1, lambda name, states: ((),), lambda state: (say("a"),) if state == 39 else ())
        self.within(10, self.too_many, 400, always, far, none)

    def test_long_texts(self):
        self.assertEqual(self.check(doubling((room(0, 0),)), ("words", ((1, 0, 0), (0, 0, 0)), (0,))), ("not", E))
        self.assertIs(is_answer(doubling((room(0, 0),)), all_texts(), ("not", comb(59))), False)
        self.assertIs(is_answer(doubling((room(0, 0), say("b"))), ("words", ((0, 1, 0), (1, 1, 1)), (0,)), ("not", comb(59))), True)


class IsAnswer(Case):
    def test_trees(self):
        # Any tree that is let by and whose text is not taken; e alone writes an odd number of letters.
        self.assertIs(is_answer(BY_HAND, EVEN, ("not", E)), True)
        self.assertIs(is_answer(BY_HAND, EVEN, ("not", ("f", E))), False)
        for thing in (("not", ("s", E)), ("not", ["e"]), ("not", None), ("not",), ("not", E, E), ["not", E], ("always", E), ("no", E), (None, E)):
            self.assertIs(is_answer(BY_HAND, EVEN, thing), False)
        three = length_by(3, (1,))
        for tree in (("f", E), ("f", ("f", ("f", E)))):
            self.assertIs(is_answer(BY_HAND, three, ("not", tree)), True)
        self.assertIs(is_answer(BY_HAND, three, ("not", ("f", ("f", E)))), False)
        none = exchanged(BY_HAND, (4, 0), None)
        self.assertIs(is_answer(none, EVEN, ("not", E)), False)
        self.assertIs(is_answer(doubling((room(0, 0),)), EVEN, ("not", comb(60))), False)
        self.assertIs(is_answer(HAND, EVEN, ("not", balanced(9))), False)

    def test_closed_signs(self):
        reader = lengthening(cycle(2))
        words = length_by(3, (0, 1, 2))
        told = always(reader, words)
        self.assertEqual(len(told[1]), 6)
        self.assertIs(is_answer(reader, words, told), True)
        for thing in ODD + tuple(wrong_kinds(told)):
            self.assertIs(is_answer(reader, words, thing), False, thing)
            self.assertIs(is_answer(reader, words, ("always", thing)), False, thing)
        for path, thing in wrong_lengths(told):
            self.assertIs(is_answer(reader, words, thing), False, path)
        self.assertIs(is_answer(reader, words, ("always", told[1][::-1])), False)
        for path in parts_of(told):
            number = at_path(told, path)
            if isinstance(number, int):
                for other in (number + 1, number - 1, 9):
                    self.assertIs(is_answer(reader, words, exchanged(told, path, other)), False)
        # More signs may be told if these are closed as well, of trees or not.
        more = tuple(sorted(told[1] + ((0, ((0, 0, 0),)), (1, ((1, 1, 1),)), (0, ((2, 2, 2),)), (1, ((0, 0, 0),)), (0, ((1, 1, 1),)), (1, ((2, 2, 2),)))))
        self.assertIs(is_answer(reader, words, ("always", more)), True)
        self.assertIs(is_answer(reader, words, ("always", tuple(sign for sign in more if sign != (0, ((0, 0, 0),))))), False)
        # The text of each must be taken, of trees or not.
        some = length_by(3, (0, 1))
        self.assertIs(is_answer(reader, some, ("always", more)), False)
        even = lengthening(cycle(2), 2)
        told = always(even, EVEN)
        self.assertEqual(told[0], "always")
        self.assertIs(is_answer(even, EVEN, told), True)
        self.assertIs(is_answer(even, EVEN, ("always", told[1] + ((1, ((1, 0),)),))), False)
        self.assertIs(is_answer(even, EVEN, ("always", ())), False)

    def test_each_room_counts(self):
        reader = doubling((room(0, 1),))
        words = ("words", ((0, 0, 1), (1, 1, 1)), (1,))
        told = always(reader, words)
        self.assertEqual(told[0], "always")
        self.assertIs(is_answer(reader, words, told), True)
        for path in parts_of(told[1]):
            part = at_path(told[1], path)
            for other in (2, -1, True) if isinstance(part, int) else (part[:-1], part + part[:1], None, list(part)):
                self.assertIs(is_answer(reader, words, ("always", exchanged(told[1], path, other))), False)

    def test_signs_of_no_tree(self):
        # Rooms are dropped everywhere: any further sign leads to those of trees, if it is one.
        reader = readers_of(one_state(ES), 1, lambda name, states: ((),), lambda state: ())
        self.assertEqual(always(reader, EVEN), ("always", ((0, ((0, 1),)),)))
        for rows in itertools.product((-1, 0, 1, 2), repeat=2):
            some = tuple(sorted({(0, ((0, 1),)), (0, (rows,))}))
            self.assertIs(is_answer(reader, EVEN, ("always", some)), set(rows) <= {0, 1})
        for state in (-1, 1, True):
            self.assertIs(is_answer(reader, EVEN, ("always", tuple(sorted({(0, ((0, 1),)), (state, ((1, 1),))})))), False)

    def test_just_one_word(self):
        choose = chance(5)
        for _ in range(60):
            kinds = random_kinds(choose)
            reader = random_reader(choose, random_set(choose, kinds, 2), 1, 2)
            words = random_words(choose, 2)
            told, _ = too_many_of(always, reader, words)
            if told is None:
                continue
            every = signs(reader, words)
            self.assertIs(is_answer(reader, words, ("always", every)), told[0] == "always")
            for tree in every_tree(kinds, 4)[:20]:
                text = plain_written(reader, tree)
                self.assertIs(is_answer(reader, words, ("not", tree)), text is not None and not plain_takes(words, text))
            for sign in every[:5]:
                self.assertIs(is_answer(reader, words, ("always", tuple(other for other in every if other != sign))), False)
        self.assertIs(is_answer(reader=BY_HAND, words=EVEN, thing=("not", E)), True)
        self.assertEqual(always(reader=BY_HAND, words=EVEN), ("not", E))
        self.assertTrue(is_set(within(reader=BY_HAND, words=EVEN)))


class Composed(Case):
    def test_by_hand(self):
        self.assertEqual(composed(BY_HAND, DOUBLE), ("reader", ("set", EFF, 1, ((0,), (0,)), (0,)), 1, (
            (((say("ab"),),),), (((room(0, 0), room(0, 0)),),)), ((room(0, 0),),)))
        # a and b in turn, from where it is; the end tells where.
        turns = ("scribe", (((1, "a"),) * 3, ((0, "b"),) * 3), ("", "c"))
        told = composed(BY_HAND, turns)
        self.assertEqual(told[1], ("set", EFF, 2, ((0,), (1, 1)), (0, 1)))
        self.assertEqual(told[2:], (2, (
            (((say("a"),), (say("b"),)),), (((room(0, 0), room(0, 1)), (room(0, 1), room(0, 0))), ((room(0, 0), room(0, 0)), (room(0, 1), room(0, 1))))),
            ((room(0, 0), say("c")), (room(0, 0),))))

    def test_by_words(self):
        choose = chance(6)
        met = set()
        for _ in range(150):
            kinds = random_kinds(choose)
            reader = random_reader(choose, random_set(choose, kinds, 2), choose.randint(1, 3))
            scribe = random_scribe(choose, choose.randint(1, 3))
            words = random_words(choose, choose.randint(1, 2))
            told, most = too_many_of(composed, reader, scribe)
            if told is None:
                met.add(most)
                continue
            self.assertIs(is_reader(told), True)
            self.assertEqual(told[2], reader[2] * len(scribe[1]))
            self.assertEqual(told[1][4], tuple(state for state, end in enumerate(told[4]) if end is not None))
            self.assertTrue(all(are_pressed(pieces) for row in told[3] for rooms in row for pieces in rooms))
            for tree in every_tree(kinds, 5)[:40]:
                text = plain_written(reader, tree)
                self.assertEqual(plain_written(told, tree), None if text is None else plain_scribed(scribe, text))
            try:
                self.assertEqual(within(told, words), within(reader, pulled(scribe, words)))
                met.add("within")
            except TooMany as error:
                self.assertIn(error.most, (8, 60, 4000))
        self.assertLessEqual({"within", 8}, met)

    def test_two_scribes(self):
        choose = chance(7)
        done = 0
        for _ in range(80):
            kinds = random_kinds(choose)
            reader = random_reader(choose, random_set(choose, kinds, 2), 1)
            one, other = random_scribe(choose, choose.randint(1, 2), 2), random_scribe(choose, choose.randint(1, 2), 2)
            try:
                first, second = composed(composed(reader, one), other), composed(reader, one_behind(one, other))
            except TooMany:
                continue
            done += 1
            for tree in every_tree(kinds, 5)[:30]:
                self.assertEqual(plain_written(first, tree), plain_written(second, tree))
        self.assertGreater(done, 30)

    def rounds(self, many, letters=""):
        return ("scribe", tuple((((row + 1) % many, letters),) * 3 for row in range(many)), ("",) * many)

    def test_rooms(self):
        def with_rooms(rooms):
            return readers_of(one_state(ES), rooms, lambda name, states: ((),) * rooms, lambda state: ())
        self.assertEqual(composed(with_rooms(2), self.rounds(4))[2], 8)
        self.assertEqual(composed(with_rooms(8), DOUBLE)[2], 8)
        self.too_many(8, composed, with_rooms(3), self.rounds(3))
        self.too_many(8, composed, with_rooms(5), self.rounds(2))

    def test_signs(self):
        self.assertEqual(composed(lengthening(cycle(20)), self.rounds(3))[1][2], 60)
        self.too_many(60, composed, lengthening(cycle(21)), self.rounds(4))
        three = readers_of(cycle(31), 3, lambda name, states: ((room(0, 0), say("a")) if states else (),) + ((),) * 2, lambda state: ())
        self.too_many(60, composed, three, self.rounds(2))
        self.too_many(8, composed, three, self.rounds(3))
        # With 9 signs four kinds of rank 3 have 2917 goals, with 12 there are 6913.
        def with_states(many):
            trees = set_of(FOUR_THREES, many, lambda name, states: 0 if not states else (states[0] + 1) % many)
            return readers_of(trees, 1, lambda name, states: ((room(0, 0), say("a")) if states else (),), lambda state: ())
        self.assertEqual(composed(with_states(3), self.rounds(3))[1][2], 3)
        self.assertEqual(composed(with_states(2), self.rounds(3))[1][2], 6)
        self.too_many(4000, composed, with_states(4), self.rounds(3))

    def test_pieces(self):
        def with_items(many, end=()):
            return readers_of(one_state(ES), 1, lambda name, states: ((room(0, 0), say("a")) * many if states else (),), lambda state: end)
        # What is written of 30 says takes 30 items or more: the longest are cut.
        plain = ("scribe", (((0, "a"), (0, "b"), (0, "c")),), ("",))
        self.assertEqual(len(composed(with_items(30), plain)[3][1][0][0]), 60)
        long = readers_of(one_state(ES), 1, lambda name, states: ((say("a" * 40),) * 8 if states else (),), lambda state: (room(0, 0),))
        wide = ("scribe", (((0, "abcabcab"), (0, "b"), (0, "c")),), ("",))
        self.too_many(60, composed, long, wide)
        wider = ("scribe", (((0, "abcabca"), (0, "b"), (0, "c")),), ("",))
        self.assertEqual(len(composed(long, wider)[3][1][0][0]), 56)
        # The end counts with the scribe's end behind it.
        ended = ("scribe", (((0, "a"), (0, "b"), (0, "c")),), ("c",))
        self.assertEqual(len(composed(with_items(1, (room(0, 0),) * 59), ended)[4][0]), 60)
        self.too_many(60, composed, with_items(1, (room(0, 0),) * 60), ended)
        self.assertEqual(len(composed(with_items(1, (room(0, 0),) * 59 + (say("a"),)), ended)[4][0]), 60)
        # What is written of nothing goes.
        silent = ("scribe", (((0, ""), (0, ""), (0, "")),), ("",))
        self.assertEqual(composed(with_items(30), silent)[3][1][0][0], (room(0, 0),) * 30)

    def test_errors(self):
        for thing in ODD + tuple(wrong_kinds(BY_HAND)):
            self.raises(BadReader, composed, thing, None)
        for thing in ODD:
            self.raises(BadScribe, composed, BY_HAND, thing)
        self.assertEqual(composed(reader=BY_HAND, scribe=DOUBLE), composed(BY_HAND, DOUBLE))
