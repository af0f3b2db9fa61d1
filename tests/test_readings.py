from helpers import E, EF, EFS, ES, ODD, Case, chance, comb, cycle, every_tree, one_state, plain_state, random_kinds, random_set, readers_of, set_of, wrong_kinds, wrong_lengths
from machining import texts_to
from templating import plain_rooms, plain_written, random_reader, room, say
from test_origins import DOUBLING
from test_readers import HAND
from samewriting.errors import BadReader, BadText, TooMany
from samewriting.readings import is_read, readings
from samewriting.sets import least_in, number_in
from samewriting.types import within

EF1 = (("e", 0), ("f", 1))
# A letter for each leaf, one child's letters behind the other's.
LEAVES = (("a", 0), ("b", 0), ("p", 2))
SAID = readers_of(one_state(LEAVES), 1, lambda name, states: ((room(0, 0), room(1, 0)),) if states else ((say(name),),), lambda state: (room(0, 0),))


def marks_of(reader, text, trees):
    """The unlike marks of some trees, by the words of the document."""
    return {(plain_state(reader[1], tree), tuple(told if told in text else None for told in plain_rooms(reader, tree))) for tree in trees}


class Readings(Case):
    def check(self, reader, text, most):
        """What is told, against all trees of at most so many nodes."""
        told = readings(reader, text)
        found = [tree for tree in every_tree(reader[1][1], most) if plain_written(reader, tree) == text]
        self.assertLessEqual(len(told), 2)
        self.assertEqual(told[:len(found[:2])], tuple(found[:2]))
        for tree in told:
            self.assertEqual(plain_written(reader, tree), text)
        self.assertIs(is_read(reader, text, told), True)
        self.assertIs(is_read(reader, text, told + (E,)), False)
        return told

    def test_by_hand(self):
        self.assertEqual(readings(DOUBLING, "aaaa"), (comb_of("f", 2),))
        self.assertEqual(readings(DOUBLING, "aaa"), ())
        self.assertEqual(readings(DOUBLING, "a"), (E,))
        self.assertEqual(readings(reader=DOUBLING, text="a" * 32), (comb_of("f", 5),))
        self.assertIs(is_read(reader=DOUBLING, text="aaaa", thing=(comb_of("f", 2),)), True)
        # What stands on the right is not seen: endless many trees write it.
        self.assertEqual(readings(HAND, "aba"), (("f", E, E), ("f", E, ("f", E, E))))
        self.assertEqual(readings(HAND, "a"), (E,))
        self.assertEqual(readings(HAND, "ab"), ())
        a, b = ("a",), ("b",)
        self.assertEqual(readings(SAID, "ab"), (("p", a, b),))
        self.assertEqual(readings(SAID, "aba"), (("p", a, ("p", b, a)), ("p", ("p", a, b), a)))
        self.assertEqual(readings(SAID, ""), ())
        # No tree at all, and none that is let by.
        silent = HAND[:4] + ((None,),)
        self.assertEqual(readings(silent, "a"), ())
        self.assertEqual(readings(silent, ""), ())

    def test_order(self):
        # In order: by sizes, then as tuples; the children as tuples, not by their sizes.
        kinds = (("a", 0), ("b", 1), ("c", 0), ("f", 2))
        reader = readers_of(one_state(kinds), 1, lambda name, states: ((),), lambda state: (say("c"),))
        self.assertEqual(readings(reader, "c"), (("a",), ("c",)))
        states = set_of(kinds, 2, lambda name, below: 1 if name == "f" else 0)
        told = readers_of(states, 1, lambda name, below: ((room(0, 0), room(1, 0)) if name == "f" else (room(0, 0), say("a")) if name == "b" else (say("a"),),), lambda state: (room(0, 0),) if state else None)
        self.assertEqual(readings(told, "aaa"), (("f", ("a",), ("b", ("a",))), ("f", ("a",), ("b", ("c",)))))
        for many in range(2, 7):
            found = [tree for tree in every_tree(kinds, 6) if tree[0] == "f" and plain_written(told, tree) == "a" * many]
            self.assertEqual(readings(told, "a" * many)[:len(found[:2])], tuple(found[:2]))

    def test_by_words(self):
        choose = chance(1)
        counts = {0: 0, 1: 0, 2: 0}
        for _ in range(150):
            kinds = random_kinds(choose)
            reader = random_reader(choose, random_set(choose, kinds, 3), choose.randint(1, 2), 2)
            trees = every_tree(kinds, 4)[:30]
            texts = [plain_written(reader, choose.choice(trees)), choose.choice(texts_to(3))]
            for text in texts:
                if text is not None and len(text) <= 40:
                    try:
                        counts[len(self.check(reader, text, 5))] += 1
                    except TooMany as error:
                        self.assertEqual(error.most, 400)
        self.assertGreater(min(counts.values()), 10)

    def test_no_one_or_more(self):
        # Whether there is none, one or more, by the least set of the trees whose text is taken.
        choose = chance(2)
        met = set()
        for _ in range(60):
            kinds = random_kinds(choose)
            reader = random_reader(choose, random_set(choose, kinds, 2), 1, 2)
            text = choose.choice(("", "a", "ab", "aa", "abc"))
            rows = tuple(tuple(place + 1 if place < len(text) and letter == text[place] else len(text) + 1 for letter in "abc") for place in range(len(text) + 2))
            trees = within(reader, ("words", rows, (len(text),)))
            told = readings(reader, text)
            self.assertEqual(told[0] if told else None, least_in(trees))
            many = sum(number_in(trees, size) for size in range(1, 30))
            self.assertEqual(len(told), min(many, 2))
            met.add(len(told))
        self.assertEqual(met, {0, 1, 2})


def comb_of(name, many):
    tree = E
    for _ in range(many):
        tree = (name, tree)
    return tree


class Bounds(Case):
    def test_texts(self):
        for text in (None, 0, ("a",), ["a"], b"a", "d", "A", "a ", "a\n", "a" * 41):
            self.raises(BadText, readings, HAND, text)
            self.raises(BadText, is_read, HAND, text, ())
        self.assertEqual(readings(SAID, "a" * 40)[0], right_comb(40))
        self.assertEqual(len(readings(HAND, "a" * 40)), 0)

    def test_marks(self):
        # Of n nodes in a line each has a mark of its own, up to 400; one more is too many.
        def reader(many, letters):
            kinds = (("e", 0), ("s", 1), ("t", 1))
            trees = set_of(kinds, many, lambda name, states: 0 if name == "e" else (states[0] + 1) % many if name == "s" else states[0])
            return readers_of(trees, 1, lambda name, states: ((say("a"),) if name == "e" else (room(0, 0),) if name == "s" else (room(0, 0), say("a")),), lambda state: (room(0, 0),) if state == 0 else None)
        # So many states, each with a, aa, .., the text itself, and with no part of it.
        for many, letters in ((40, 9), (20, 19), (10, 39), (50, 7)):
            self.assertEqual(many * (letters + 1), 400)
            told = readings(reader(many, letters), "a" * letters)
            self.assertEqual(told[0], comb_of("t", letters - 1))
            self.assertEqual(len(told), 2)
        for many, letters in ((41, 9), (20, 20), (58, 6), (10, 40)):
            self.assertGreater(many * (letters + 1), 400)
            self.too_many(400, readings, reader(many, letters), "a" * letters)
            self.too_many(400, is_read, reader(many, letters), "a" * letters, ())
        # 401 marks just: one state more that has one mark alone.
        def one_more(more):
            kinds = (("e", 0), ("g", 0), ("s", 1), ("t", 1))
            trees = set_of(kinds, 22, lambda name, states: 0 if name == "e" else 20 + more if name == "g" else states[0] if states[0] >= 20 else (states[0] + 1) % 20 if name == "s" else states[0])
            return readers_of(trees, 1, lambda name, states: ((say("a"),) if name in "eg" else (room(0, 0),) if name == "s" or states[0] >= 20 else (room(0, 0), say("a")),), lambda state: (room(0, 0),))
        self.assertEqual(len(marks_of(one_more(0), "a" * 19, every_tree((("e", 0), ("g", 0), ("s", 1), ("t", 1)), 3))), 7)
        self.too_many(400, readings, one_more(0), "a" * 19)
        just = one_more(0)
        self.assertEqual(readings(just, "a" * 18)[0], comb_of("t", 17))

    def test_marks_of_rooms(self):
        # Rooms are told apart by what stands in the text alone.
        reader = readers_of(one_state(ES), 2, lambda name, states: ((room(0, 0), say("c")), (room(0, 1),)) if states else ((say("c"),), (say("a"),)), lambda state: (room(0, 1),))
        self.assertEqual(readings(reader, "a"), (E, comb(1)))
        self.assertEqual(readings(reader, "c"), ())
        long = readers_of(one_state(EF), 2, lambda name, states: ((room(0, 0), room(1, 0), room(0, 0)), (room(0, 1),)) if states else ((say("a"),), (say("b"),)), lambda state: (room(0, 1), say("c")))
        self.assertEqual(readings(long, "bc"), (E, ("f", E, E)))

    def test_nodes_and_levels(self):
        # The least tree has more than 60 levels; or the second one alone.
        sixty = set_of(ES, 60, lambda name, states: min(59, states[0] + 1) if states else 0)
        reader = readers_of(sixty, 1, lambda name, states: ((),), lambda state: () if state == 59 else None)
        self.too_many(60, readings, reader, "")
        self.too_many(60, is_read, reader, "", ())
        around = set_of(ES, 60, lambda name, states: (states[0] + 1) % 60 if states else 0)
        once = readers_of(around, 1, lambda name, states: ((),), lambda state: () if state == 59 else None)
        self.too_many(60, readings, once, "")
        only = readers_of(sixty, 1, lambda name, states: ((say("a"),) if states == (59,) else (),), lambda state: (room(0, 0),) if state == 59 else None)
        self.assertEqual(readings(only, ""), (comb(59),))
        self.assertIs(is_read(only, "", (comb(59),)), True)
        self.too_many(60, readings, only, "a")
        # Trees of full levels: 3 ** 6 nodes are more than 400.
        kinds = (("e", 0), ("f", 3))
        wide = set_of(kinds, 8, lambda name, states: min(7, min(states) + 1) if states else 0)
        self.too_many(400, readings, readers_of(wide, 1, lambda name, states: ((),), lambda state: () if state == 6 else None), "")
        self.assertEqual(len(readings(readers_of(wide, 1, lambda name, states: ((),), lambda state: () if state == 4 else None), "")), 2)
        # 364 nodes, and the second one has 367 at least; of 7 levels the first one has 1093.
        told = readers_of(wide, 1, lambda name, states: ((),), lambda state: () if state in (0, 6) else None)
        self.too_many(400, readings, told, "")

    def test_first_tree_counts_ahead_of_the_second(self):
        # 80 levels of s write 40 letters; 7 levels of f have 1093 nodes.
        kinds = (("e", 0), ("f", 3), ("s", 1))

        def goal(name, below):
            if name == "e":
                return 0
            if name == "s":
                return 1 - below[0] if below[0] < 2 else 9
            return 9 if len(set(below)) > 1 or not 0 <= below[0] < 7 or below[0] == 1 else max(2, below[0] + 1)
        trees = set_of(kinds, 10, goal)

        def reader(letters, end):
            return readers_of(trees, 1, lambda name, below: ((room(0, 0),) + (say("a"),) * below[0] if name == "s" and below[0] < 2 else (),),
                              lambda state: (room(0, 0),) if state == 0 else (say(letters),) if state == end else None)
        self.assertEqual(readings(reader("a" * 4, 6), "aaaa"), (comb_of("s", 8), full(6)))
        # The first one is too deep, the second one too large.
        self.too_many(60, readings, reader("a" * 40, 7), "a" * 40)
        self.too_many(60, readings, reader("a" * 40, 8), "a" * 40)
        # The second one alone is too large, or too deep.
        self.too_many(400, readings, reader("a" * 4, 7), "aaaa")
        leaf = readers_of(set_of(ES, 60, lambda name, below: min(59, below[0] + 1) if below else 0), 1, lambda name, below: ((say("a"),) if below == (59,) else (),), lambda state: (room(0, 0),) if state == 59 else
                          (say("a"),) if state == 3 else None)
        self.too_many(60, readings, leaf, "a")
        self.assertEqual(readings(reader("a" * 29, 6), "a" * 29), (comb_of("s", 58), full(6)))

    def test_soon(self):
        choose = chance(3)
        kinds = (("e", 0), ("f", 3))
        reader = readers_of(one_state(kinds), 1, lambda name, states: ((room(0, 0), room(1, 0), room(2, 0)),) if states else ((say("a"),),), lambda state: (room(0, 0),))
        self.assertEqual(len(self.within(20, readings, reader, "a" * 39)), 2)
        self.assertEqual(self.within(20, readings, reader, "a" * 40), ())
        trees = set_of(kinds, 15, lambda name, states: (sum(states) + 1) % 15 if states else 0)
        large = readers_of(trees, 8, lambda name, states: tuple(tuple(room(choose.randrange(3), choose.randrange(8)) for _ in range(24)) for _ in range(8)) if states else ((say("ab"),),) * 8, lambda state: (room(0, 3),))
        self.assertEqual(self.within(30, readings, large, "ab"), (E,))
        said = readers_of(one_state(EFS), 2, lambda name, states: {"e": ((say("a"),), (say("b"),)), "s": ((room(0, 1),), (room(0, 0), say("a"))), "f": ((room(0, 0), room(1, 1)), (room(1, 0), room(0, 1)))}[name],
                          lambda state: (room(0, 0),))
        told = self.within(30, readings, said, "ab" * 10)
        self.assertIsInstance(told, (tuple, TooMany))


def full(levels):
    tree = E
    for _ in range(levels - 1):
        tree = ("f", tree, tree, tree)
    return tree


def right_comb(many):
    tree = ("a",)
    for _ in range(many - 1):
        tree = ("p", ("a",), tree)
    return tree


class IsRead(Case):
    def test_wrong_ones(self):
        told = readings(HAND, "aba")
        self.assertIs(is_read(HAND, "aba", told), True)
        self.takes_none_of(lambda thing: is_read(HAND, "aba", thing), ODD + (list(told), told[:1], told[::-1], told + (E,), told[1:], told[:1] * 2))
        self.takes_none_of(lambda thing: is_read(HAND, "aba", thing), wrong_kinds(told))
        for _, thing in wrong_lengths(told):
            self.assertIs(is_read(HAND, "aba", thing), False)
        for thing in ODD:
            if thing != ():
                self.assertIs(is_read(HAND, "ab", thing), False)
                self.assertIs(is_read(HAND, "a", thing), False)
        self.assertIs(is_read(HAND, "ab", ()), True)
        self.assertIs(is_read(HAND, "a", (E,)), True)
        self.assertIs(is_read(HAND, "a", E), False)
        self.assertIs(is_read(HAND, "aba", (("f", E, ("f", E, E)), ("f", E, ("f", ("f", E, E), E)))), False)

    def test_errors_in_order(self):
        for thing in ODD:
            self.raises(BadReader, readings, thing, None)
            self.raises(BadReader, is_read, thing, None, None)
        many = readers_of(cycle(60), 1, lambda name, states: ((room(0, 0), say("a")) if states else (),), lambda state: None)
        self.assertEqual(readings(many, "a" * 40), ())
        self.raises(BadText, readings, many, "a" * 41)
        crowd = readers_of(cycle(60), 1, lambda name, states: ((say("a"), room(0, 0)) if states and states[0] < 30 else (),), lambda state: None)
        self.assertEqual(readings(crowd, "a" * 30), ())
        self.assertEqual(readings(many, "a" * 5), ())
