from helpers import (E, EF, EFS, ES, ODD, Case, chance, comb, cycle, every_tree, exchanged, one_state, plain_state, plain_told,
                     plain_worths, poly, random_kinds, random_set, readers_of, set_of, wrong_kinds)
from templating import plain_rooms, plain_written, random_reader, room, say
from samewriting.codes import code, coded, decoded, same_texts, same_thin
from samewriting.errors import (BadDegree, BadNumber, BadReader, BadSet, BadSize, BadText, NotEven, OtherKinds, TooMany)
from samewriting.evens import is_even, same_even
from samewriting.numbers import is_numbers, kept
from samewriting.sameness import sameness
from samewriting.sums import is_paper

X0, X1 = (0, 0), (0, 1)


def on_chain(leaf, above, end=(room(0, 0),), kinds=ES):
    """The reader of one room over all trees of e and s."""
    return readers_of(one_state(kinds), 1, lambda name, states: (leaf if name == "e" else above,), lambda state: end)


def plain_code(text):
    return 4 ** len(text) + sum(4 ** (len(text) - 1 - place) * (1 + "abc".index(letter)) for place, letter in enumerate(text))


class Code(Case):
    def test_by_hand(self):
        self.assertEqual([code(text) for text in ("", "a", "b", "c", "ab", "ca")], [1, 5, 6, 7, 22, 29])

    def test_there_and_back(self):
        choose = chance(1)
        for many in list(range(8)) + [40, 999, 1000]:
            text = "".join(choose.choice("abc") for _ in range(many))
            self.assertEqual(code(text), plain_code(text))
            self.assertEqual(decoded(code(text)), text)

    def test_bounds(self):
        self.assertEqual(decoded(code("c" * 1000)), "c" * 1000)
        for thing in ("a" * 1001, "d", "A", "a ", " ", "ab\n") + tuple(value for value in ODD if value not in ("", "a")):
            self.assertIs(self.raises(BadText, code, thing).at, None)
        self.raises(BadNumber, decoded, plain_code("a" * 1001))
        self.raises(BadNumber, decoded, plain_code("c" * 1001))

    def test_no_codes(self):
        codes = {plain_code(text) for many in range(6) for text in self.texts(many)}
        for number in range(-5, 4 ** 5):
            if number in codes:
                self.assertEqual(plain_code(decoded(number)), number)
            else:
                self.raises(BadNumber, decoded, number)
        for thing in (True, None, "5", 5.0, (5,), [5], b"5"):
            self.raises(BadNumber, decoded, thing)

    def texts(self, many):
        return [""] if many == 0 else [text + letter for text in self.texts(many - 1) for letter in "abc"]


class Coded(Case):
    def test_by_hand(self):
        told = coded(on_chain((say("a"),), (room(0, 0), say("b"), room(0, 0))))
        self.assertEqual(told[2], 2)
        self.assertEqual(told[3][0], ((poly((4,)), poly((1,))),))
        self.assertEqual(told[3][1], ((poly((4, X0, X0)), poly((1, X1), (2, X0), (4, X0, X1))),))
        self.assertEqual(told[4], (poly((1, X0), (1, X1)),))

    def test_tells_codes_of_what_is_written(self):
        choose = chance(2)
        for _ in range(60):
            kinds = random_kinds(choose)
            trees = random_set(choose, kinds, 3)
            reader = random_reader(choose, trees, choose.randint(1, 4), 2)
            numbers = coded(reader)
            self.assertTrue(is_numbers(numbers))
            self.assertEqual(numbers[:3], ("numbers", trees, 2 * reader[2]))
            for tree in every_tree(kinds, 5)[:40]:
                rooms = plain_rooms(reader, tree)
                worths = [4 ** len(text) if half == 0 else plain_code(text) - 4 ** len(text) for text in rooms for half in (0, 1)]
                self.assertEqual(plain_worths(numbers, tree), tuple(worths))
                text = plain_written(reader, tree)
                self.assertEqual(plain_told(numbers, tree), None if text is None else plain_code(text))

    def test_rooms(self):
        def with_rooms(rooms):
            return readers_of(one_state(ES), rooms, lambda name, states: ((),) * rooms, lambda state: None)
        self.assertEqual(coded(with_rooms(4))[2], 8)
        self.too_many(8, coded, with_rooms(5))
        # Of several the one told first counts.
        self.too_many(8, coded, readers_of(one_state(ES), 5, lambda name, states: ((room(0, 0),) * 41 if name == "s" else (),) * 5,
                                           lambda state: None))

    def test_degrees(self):
        self.assertEqual(coded(on_chain((), (room(0, 0),) * 40))[3][1][0][0], ((((X0, 40),), 1),))
        self.too_many(40, coded, on_chain((), (room(0, 0),) * 41))
        self.assertEqual(len(coded(on_chain((), (), (room(0, 0),) * 40))[4][0]), 41)
        self.too_many(40, coded, on_chain((), (), (room(0, 0),) * 41))

    def test_coefficients(self):
        coded(on_chain((say("c" * 40), say("c" * 26)), ()))
        self.too_many(10 ** 40, coded, on_chain((say("a" * 40), say("a" * 27)), ()))
        # The end tells power and number together.
        coded(on_chain((), (), (say("a" * 40), say("a" * 26))))
        self.too_many(10 ** 40, coded, on_chain((), (), (say("c" * 40), say("c" * 26))))
        # One coefficient is enough, whatever the others are.
        self.too_many(10 ** 40, coded, on_chain((), (), (say("a" * 40), say("a" * 40), room(0, 0))))
        self.too_many(10 ** 40, coded, on_chain((), (), (room(0, 0), say("a" * 40), say("a" * 40))))
        # The last text whose code is not beyond the bound, and the next one.
        text = ""
        while len(text) < 66:
            rest = 65 - len(text)
            fits = [letter for letter in "abc" if plain_code(text + letter + "a" * rest) <= 10 ** 40]
            text += fits[-1]
        self.assertEqual(coded(on_chain((), (), (say(text[:40]), say(text[40:]))))[4][0], poly((plain_code(text),)))
        next_one = max(place for place in range(66) if text[place] != "c")
        text = text[:next_one] + "bc"["ab".index(text[next_one])] + "a" * (65 - next_one)
        self.assertGreater(plain_code(text), 10 ** 40)
        self.too_many(10 ** 40, coded, on_chain((), (), (say(text[:40]), say(text[40:]))))

    def test_first_polynomial_counts(self):
        long = (say("c" * 40), say("c" * 40))
        high = (room(0, 0),) * 41
        self.too_many(10 ** 40, coded, on_chain(long, high))
        self.too_many(40, coded, on_chain((), high, long))
        self.too_many(10 ** 40, coded, on_chain((), long, high))
        both = readers_of(one_state(ES), 2, lambda name, states: ((), ()) if name == "e" else (high, long), lambda state: None)
        self.too_many(40, coded, both)
        both = readers_of(one_state(ES), 2, lambda name, states: ((), ()) if name == "e" else (long, high), lambda state: None)
        self.too_many(10 ** 40, coded, both)
        # Of one polynomial the degree counts first.
        self.too_many(40, coded, on_chain((), high + long))

    def test_wrong_readers(self):
        reader = on_chain((say("a"),), (room(0, 0), say("b")))
        for thing in ODD + tuple(wrong_kinds(reader)):
            self.raises(BadReader, coded, thing)


class SameTexts(Case):
    one = on_chain((say("a"),), (room(0, 0), say("b")))
    other = readers_of(one_state(ES), 2, lambda name, states: ((), (say("a"),)) if name == "e" else ((room(0, 0), say("b")), (room(0, 1),)),
                       lambda state: (room(0, 1), room(0, 0)))
    every = one_state(ES)

    def test_same(self):
        word, paper = same_texts(self.one, self.other, self.every, 2, 4)
        self.assertEqual(word, "same")
        self.assertTrue(is_paper(kept(coded(self.one), self.every), kept(coded(self.other), self.every), paper))
        word, paper = same_thin(self.one, self.one, self.every)
        self.assertEqual(word, "same")
        self.assertTrue(is_paper(kept(coded(self.one), self.every), kept(coded(self.one), self.every), paper))

    def test_parted_in_the_set_alone(self):
        # They part at each second tree, from three times s on.
        third = readers_of(cycle(2), 1, lambda name, states: ((say("a"),) if name == "e" else (room(0, 0), say("c" if states == (0,) else "b")),),
                           lambda state: (room(0, 0),))
        self.assertEqual(same_texts(self.one, third, self.every, 1, 4), ("parted", comb(1)))
        self.assertEqual(same_thin(self.one, third, self.every), ("parted", comb(1)))
        leaf = set_of(ES, 2, lambda name, states: int(name == "s"), (0,))
        self.assertEqual(same_texts(self.one, third, leaf, 1, 9)[0], "same")
        self.assertEqual(same_thin(self.one, third, leaf)[0], "same")
        self.assertEqual(same_thin(self.one, third, cycle(3, (2,))), ("parted", comb(2)))

    def test_let_by(self):
        none = on_chain((say("a"),), (room(0, 0), say("b")), None)
        self.assertEqual(same_texts(self.one, none, self.every, 1, 2), ("parted", E))
        self.assertEqual(same_thin(none, self.one, cycle(2, (1,))), ("parted", comb(1)))
        self.assertEqual(same_thin(none, none, self.every)[0], "same")

    def test_open(self):
        # Turned about, the copies are the same from some size on only if enough trees are looked at.
        one = on_chain((say("a"),), (room(0, 0), room(0, 0)))
        other = readers_of(one_state(ES), 2, lambda name, states: ((say("a"),), ()) if name == "e" else ((room(0, 0), room(0, 1), say("a")),
                                                                                                    (room(0, 1), room(0, 0))),
                           lambda state: (room(0, 0),))
        self.assertEqual(same_texts(one, other, self.every, 1, 1), ("open",))

    def test_is_as_sameness(self):
        choose = chance(3)
        words = set()
        for _ in range(40):
            kinds = random_kinds(choose)
            trees = random_set(choose, kinds, 2)
            some = [random_reader(choose, random_set(choose, kinds, 2), 1, 2) for _ in range(2)]
            if choose.random() < 0.3:
                some[1] = some[0]
            wanted = self.told(lambda: sameness(kept(coded(some[0]), trees), kept(coded(some[1]), trees), 1, 3))
            found = self.told(lambda: same_texts(some[0], some[1], trees, 1, 3))
            self.assertEqual(found, wanted)
            words.add(str(found[0]))
            if found[0] == "parted":
                self.assertIn(plain_state(trees, found[1]), trees[4])
                self.assertNotEqual(plain_written(some[0], found[1]), plain_written(some[1], found[1]))
        self.assertLessEqual({"same", "parted"}, words)

    def told(self, function):
        try:
            return function()
        except TooMany as error:
            return ("many", error.most)

    def test_thin(self):
        choose = chance(4)
        many = [0, 0]
        for _ in range(80):
            kinds = random_kinds(choose)
            trees = random_set(choose, kinds, 2)
            one, other = [random_reader(choose, random_set(choose, kinds, 2), choose.randint(1, 2), 2) for _ in range(2)]
            thin = all(len({item[1] for item in pieces if item[0] == "room"}) == len([item for item in pieces if item[0] == "room"])
                       for reader in (one, other) for pieces in self.all_pieces(reader))
            self.assertEqual(is_even(coded(one)) and is_even(coded(other)), thin)
            many[thin] += 1
            if thin:
                self.assertEqual(same_thin(one, other, trees), same_even(kept(coded(one), trees), kept(coded(other), trees)))
            else:
                self.raises(NotEven, same_thin, one, other, trees)
        self.assertGreater(min(many), 5)

    def all_pieces(self, reader):
        return [pieces for row in reader[3] for rooms in row for pieces in rooms] + [end for end in reader[4] if end is not None]

    def test_errors_in_order(self):
        bad = exchanged(self.one, (2,), 9)
        far = on_chain((), (room(0, 0),) * 41)
        kinds = one_state(EF)
        for function, rest in ((same_texts, (0, 0)), (same_thin, ())):
            self.raises(BadReader, function, bad, bad, None, *rest)
            self.raises(BadReader, function, bad, self.one, None, *rest)
            self.raises(BadReader, function, self.one, bad, None, *rest)
            self.raises(BadSet, function, self.one, self.one, None, *rest)
            self.raises(OtherKinds, function, far, self.one, kinds, *rest)
            self.raises(OtherKinds, function, readers_of(one_state(EFS), 1, lambda name, states: ((),), lambda state: None), self.one,
                        self.every, *rest)
            self.raises(OtherKinds, function, self.one, readers_of(one_state(EFS), 1, lambda name, states: ((),), lambda state: None),
                        self.every, *rest)
        self.raises(BadDegree, same_texts, far, far, self.every, 0, 0)
        self.raises(BadDegree, same_texts, far, far, self.every, 5, 1)
        self.raises(BadDegree, same_texts, self.one, self.one, self.every, True, 1)
        self.raises(BadSize, same_texts, far, far, self.every, 1, 0)
        self.raises(BadSize, same_texts, far, far, self.every, 4, 10)
        self.too_many(40, same_texts, far, far, self.every, 4, 9)
        self.raises(NotEven, same_thin, self.one, far, self.every)
        long = on_chain((), (say("c" * 40), say("c" * 40)))
        self.too_many(10 ** 40, same_thin, self.one, long, self.every)
        five = readers_of(one_state(ES), 5, lambda name, states: ((),) * 5, lambda state: None)
        self.too_many(8, same_texts, five, long, self.every, 1, 1)
        self.too_many(8, same_thin, five, self.one, self.every)

    def test_too_many_states(self):
        seven, eight = [readers_of(cycle(many), 1, lambda name, states: ((),), lambda state: ()) for many in (7, 8)]
        self.assertEqual(same_thin(seven, eight, self.every)[0], "same")
        self.assertEqual(same_thin(seven, seven, cycle(8))[0], "same")
        self.too_many(60, same_thin, seven, eight, cycle(9))
        self.too_many(60, same_texts, eight, seven, cycle(9), 1, 1)
        self.too_many(60, same_texts, self.one, self.one, self.every, 4, 1)

    def test_by_name(self):
        self.assertEqual(same_texts(one=self.one, other=self.one, trees=self.every, degree=1, size=3)[0], "same")
        self.assertEqual(same_thin(one=self.one, other=self.one, trees=self.every)[0], "same")
        self.assertEqual(decoded(number=code(text="ab")), "ab")
        self.assertEqual(coded(reader=self.one)[2], 2)
