from helpers import (E, EF, EFS, ES, ODD, PRIME, Case, balanced, chance, comb, cycle, every_tree, left_comb, one_state, plain_state, random_set, readers_of, set_of, wrong_kinds)
from templating import are_pressed, plain_written, random_reader, room, say
from test_readers import HAND
from samewriting.codes import same_texts
from samewriting.errors import BadDegree, BadKinds, BadReader, BadSize, BadTree, NotLetBy, OtherKinds, TooMany
from samewriting.joins import least
from samewriting.origins import bared, marked, marked_kinds, one_mark, origins, same_origins
from samewriting.readers import is_reader, written
from samewriting.sets import is_in
from samewriting.trees import is_kinds, is_tree

T = ("f", E, E)
# e says "a", f doubles.
DOUBLING = readers_of(one_state((("e", 0), ("f", 1))), 1, lambda name, states: ((room(0, 0), room(0, 0)),) if states else ((say("a"),),), lambda state: (room(0, 0),))


def plain_origins(reader, tree):
    """The letters and their paths, by the words of the document."""
    def rooms_at(node, path):
        kids = [rooms_at(child, path + (step,)) for step, child in enumerate(node[1:])]
        place = 0
        for child in node[1:]:
            place = place * reader[1][2] + plain_state(reader[1], child)
        kind = [name for name, _ in reader[1][1]].index(node[0])
        return [told(pieces, kids, path) for pieces in reader[3][kind][place]]

    def told(pieces, kids, path):
        found = []
        for item in pieces:
            found.extend([(letter, path) for letter in item[1]] if item[0] == "say" else kids[item[1]][item[2]])
        return found
    end = reader[4][plain_state(reader[1], tree)]
    return tuple(told(end, [rooms_at(tree, ())], None))


def marks_in(tree):
    """The paths to marked nodes."""
    return ([()] if tree[0].endswith("q") else []) + [(step,) + path for step, child in enumerate(tree[1:]) for path in marks_in(child)]


def with_mark(tree, path):
    if not path:
        return (tree[0] + "q",) + tree[1:]
    return tree[:path[0] + 1] + (with_mark(tree[path[0] + 1], path[1:]),) + tree[path[0] + 2:]


def paths_in(tree):
    return [()] + [(step,) + path for step, child in enumerate(tree[1:]) for path in paths_in(child)]


def few_kinds(choose):
    return choose.choice((EF, ES, EFS, (("a", 0), ("b", 0), ("s", 1)), (("a", 0), ("c", 2))))


class Origins(Case):
    def test_by_hand(self):
        self.assertEqual(origins(DOUBLING, ("f", E)), (("a", (0,)), ("a", (0,))))
        self.assertEqual(origins(DOUBLING, ("f", ("f", E))), (("a", (0, 0)),) * 4)
        self.assertEqual(origins(HAND, T), (("a", (0,)), ("b", ()), ("a", (0,))))
        reader = readers_of(one_state(EF), 1, lambda name, states: ((room(1, 0), say("bc"), room(0, 0)),) if states else ((say("a"),),), lambda state: (say("c"), room(0, 0), say("b")))
        self.assertEqual(origins(reader=reader, tree=("f", E, T)), (
            ("c", None), ("a", (1, 1)), ("b", (1,)), ("c", (1,)), ("a", (1, 0)), ("b", ()), ("c", ()), ("a", (0,)), ("b", None)))
        self.assertEqual(origins(readers_of(one_state(EF), 1, lambda name, states: ((),), lambda state: ()), T), ())

    def test_by_words(self):
        choose = chance(1)
        for _ in range(100):
            kinds = few_kinds(choose)
            reader = random_reader(choose, random_set(choose, kinds, 3), choose.randint(1, 3), 3)
            for tree in every_tree(kinds, 5)[:30]:
                if plain_written(reader, tree) is None:
                    self.raises(NotLetBy, origins, reader, tree)
                else:
                    told = origins(reader, tree)
                    self.assertEqual(told, plain_origins(reader, tree))
                    self.assertEqual("".join(letter for letter, _ in told), written(reader, tree))
                    self.assertTrue(all(path is None or path in paths_in(tree) for _, path in told))

    def test_ten_thousand_letters(self):
        def exactly(more):
            return readers_of(cycle(5), 1, lambda name, states: ((room(0, 0),) * (10 if states == (2,) else 5) + ((say("c"),) if more and states == (2,) else ()),) if states
                              else ((say("ab" * 20),),), lambda state: (room(0, 0),))
        self.assertEqual(origins(exactly(False), comb(3)), (("a", (0, 0, 0)), ("b", (0, 0, 0))) * 5000)
        self.too_many(10000, origins, exactly(True), comb(3))
        empty = readers_of(one_state(EF), 8, lambda name, states: tuple((room(0, number),) * 30 + (room(1, number),) * 30 for number in range(8)) if states else ((),) * 8,
                           lambda state: (room(0, 7),) * 60)
        self.assertEqual(self.within(5, origins, empty, balanced(8)), ())
        deep = readers_of(one_state(EF), 1, lambda name, states: ((room(0, 0), say("ab")),) if states else ((say("c"),),), lambda state: (room(0, 0),) * 60)
        self.assertEqual(len(self.within(5, origins, deep, left_comb(59))), 60 * 119)
        # Rooms that do not come into it may be far longer.
        far = readers_of(one_state(ES), 2, lambda name, states: ((room(0, 0),) * 60, (room(0, 1),)) if states else ((say("a"),), (say("b"),)), lambda state: (room(0, 1),))
        self.assertEqual(self.within(5, origins, far, comb(59)), (("b", (0,) * 59),))

    def test_errors_in_order(self):
        for thing in ODD:
            self.raises(BadReader, origins, thing, None)
            if thing != E:
                self.raises(BadTree, origins, HAND, thing)
        lost = readers_of(one_state(ES), 1, lambda name, states: ((room(0, 0),) * 60,) if states else ((say("a"),),), lambda state: None)
        self.raises(BadTree, origins, lost, comb(60))
        self.raises(NotLetBy, origins, lost, comb(59))


class MarkedKinds(Case):
    def test_by_hand(self):
        self.assertEqual(marked_kinds(EF), (("e", 0), ("eq", 0), ("f", 2), ("fq", 2)))
        self.assertEqual(marked_kinds((("a", 0), ("ab", 1), ("b", 3))), (("a", 0), ("ab", 1), ("abq", 1), ("aq", 0), ("b", 3), ("bq", 3)))
        self.assertEqual(marked_kinds(kinds=(("q", 0),)), (("q", 0), ("qq", 0)))
        self.assertEqual(marked_kinds((("abcdefg", 0),)), (("abcdefg", 0), ("abcdefgq", 0)))

    def test_bounds(self):
        right = (EF, EFS, (("abcdefg", 0),), (("q", 0), ("r", 1)), (("a", 0), ("aqq", 1)), (("a", 0), ("bq", 1)))
        wrong = ((("abcdefgh", 0),), (("a", 0), ("abcdefgh", 1)), (("a", 0), ("aq", 0)), (("a", 0), ("aq", 1)), (("q", 0), ("qq", 2)), (("a", 0), ("b", 0), ("c", 0), ("d", 0)),
                 (("a", 0), ("b", 0), ("c", 0), ("d", 1)), (("f", 0), ("e", 0)), (("e", 1),), ())
        for kinds in right:
            self.assertIs(is_kinds(marked_kinds(kinds)), True)
            self.assertIs(is_in(one_mark(kinds), self.leaf(kinds)), False)
        for kinds in wrong + ODD:
            self.raises(BadKinds, marked_kinds, kinds)
            self.raises(BadKinds, one_mark, kinds)
            self.raises(BadKinds, bared, kinds, None)
        for kinds in wrong[:7]:
            reader = readers_of(one_state(kinds), 1, lambda name, states: ((),), lambda state: ())
            self.assertIs(is_reader(reader), True)
            self.raises(BadKinds, marked, reader)
            self.raises(BadKinds, same_origins, reader, reader, 0, 0)

    def leaf(self, kinds):
        return ([name for name, rank in kinds if rank == 0][0],)

    def test_one_mark(self):
        choose = chance(2)
        for _ in range(12):
            kinds = few_kinds(choose)
            told = one_mark(kinds)
            self.assertEqual(least(told), told)
            self.assertEqual(told[1], marked_kinds(kinds))
            for tree in every_tree(marked_kinds(kinds), 4)[:200]:
                self.assertEqual(is_in(told, tree), len(marks_in(tree)) == 1)
        self.assertEqual(one_mark(kinds=(("e", 0),)), ("set", (("e", 0), ("eq", 0)), 2, ((0,), (1,)), (1,)))

    def test_bared(self):
        self.assertEqual(bared(EF, ("fq", E, ("eq",))), T)
        self.assertEqual(bared(kinds=EF, tree=T), T)
        self.assertEqual(bared((("q", 0), ("r", 1)), ("rq", ("qq",))), ("r", ("q",)))
        for thing in ODD + (("fq", E), ("g",), ("eqq",), ("f", E, ("fq",)), left_comb(60)):
            if thing != E:
                self.raises(BadTree, bared, EF, thing)
        for thing in wrong_kinds(("fq", E, E)):
            self.raises(BadTree, bared, EF, thing)
        choose = chance(3)
        for _ in range(20):
            kinds = few_kinds(choose)
            for tree in every_tree(kinds, 5)[:20]:
                for path in paths_in(tree):
                    self.assertEqual(bared(kinds, with_mark(tree, path)), tree)


class Marked(Case):
    def test_by_hand(self):
        told = marked(HAND)
        self.assertEqual(told[1], ("set", marked_kinds(EF), 1, ((0,),) * 4, (0,)))
        self.assertEqual(told[3], ((((say("aa"),),),), (((say("ba"),),),), (((room(0, 0), say("ab"), room(0, 0)),),), (((room(0, 0), say("bb"), room(0, 0)),),)))
        self.assertEqual(told[4], HAND[4])
        self.assertEqual(written(told, ("f", ("eq",), E)), "baabba")
        self.assertEqual(written(marked(reader=HAND), ("fq", E, E)), "aabbaa")

    def test_by_words(self):
        choose = chance(4)
        for _ in range(60):
            kinds = few_kinds(choose)
            reader = random_reader(choose, random_set(choose, kinds, 3), choose.randint(1, 3), 3)
            told = marked(reader)
            self.assertIs(is_reader(told), True)
            self.assertEqual(told[1][4], tuple(state for state, end in enumerate(told[4]) if end is not None))
            self.assertEqual(told[1][2], reader[1][2])
            for pieces in [pieces for row in told[3] for held in row for pieces in held] + [end for end in told[4] if end is not None]:
                self.assertTrue(are_pressed(pieces))
            for tree in every_tree(told[1][1], 4)[:60]:
                bare = bared(kinds, tree)
                if plain_written(reader, bare) is None:
                    self.assertIs(plain_written(told, tree), None)
                else:
                    marks = marks_in(tree)
                    self.assertEqual(plain_written(told, tree), "".join(("b" if path in marks else "a") + letter for letter, path in plain_origins(reader, bare)))

    def test_bounds(self):
        # 30 says of 40 letters, each beside a room: 60 items, and 90 with twice the letters.
        def reader(pieces, end=()):
            return readers_of(one_state(ES), 1, lambda name, states: (pieces if states else (),), lambda state: end)
        self.assertEqual(len(marked(reader((say("a" * 40), room(0, 0)) * 20))[3][2][0][0]), 60)
        self.too_many(60, marked, reader((say("a" * 40), room(0, 0)) * 21))
        self.assertEqual(len(marked(reader((say("a" * 20), room(0, 0)) * 30))[3][2][0][0]), 60)
        self.too_many(60, marked, reader((say("a" * 20), room(0, 0)) * 29 + (say("a" * 21), room(0, 0))))
        self.assertEqual(len(marked(reader((), (say("a" * 40),) * 30))[4][0]), 60)
        self.too_many(60, marked, reader((), (say("a" * 40),) * 30 + (say("a"),)))
        # Twice the rows: 1 + 44 * 44 of a set are 3874; with 45 states they are more than 4000.
        for many, is_let in ((44, True), (45, False)):
            wide = readers_of(cycle(many, (), EF), 1, lambda name, states: ((say("a" * 40), room(0, 0)) * 21 if states == (0, 0) and not is_let else (),), lambda state: None)
            if is_let:
                self.assertEqual(marked(wide)[1][2], 44)
            else:
                self.too_many(4000, marked, wide)

    def test_errors(self):
        for thing in ODD:
            self.raises(BadReader, marked, thing)
            self.raises(BadReader, same_origins, thing, HAND, 1, 1)
            self.raises(BadReader, same_origins, HAND, thing, 1, 1)


class SameOrigins(Case):
    def test_by_hand(self):
        left = readers_of(one_state(EF), 1, lambda name, states: ((room(0, 0), say("a"), room(1, 0)),) if states else ((say("a"),),), lambda state: (room(0, 0),))
        behind = readers_of(one_state(EF), 1, lambda name, states: ((room(0, 0), room(1, 0), say("a")),) if states else ((say("a"),),), lambda state: (room(0, 0),))
        every = one_state(EF)
        # All letters are a: they write the same, and not from the same nodes.
        self.assertEqual(same_texts(left, behind, every, 1, 5)[0], "same")
        word, tree = same_origins(left, behind, 1, 5)
        self.assertEqual(word, "parted")
        self.assertIs(is_tree(marked_kinds(EF), tree), True)
        self.assertEqual(tree, ("f", E, ("eq",)))
        self.assertEqual(same_origins(one=left, other=left, degree=1, size=5)[0], "same")
        self.assertEqual(same_origins(HAND, HAND, 1, 3), ("open",))
        # An end that says what a row said.
        end = readers_of(one_state(ES), 1, lambda name, states: ((room(0, 0),) if states else (),), lambda state: (say("a"), room(0, 0)))
        row = readers_of(one_state(ES), 1, lambda name, states: ((room(0, 0),) if states else (say("a"),),), lambda state: (room(0, 0),))
        self.assertEqual(same_texts(end, row, one_state(ES), 1, 4)[0], "same")
        self.assertEqual(same_origins(end, row, 1, 4), ("parted", ("eq",)))

    def test_by_words(self):
        choose = chance(5)
        words = set()
        for _ in range(60):
            kinds = choose.choice((ES, EF, (("a", 0), ("b", 0), ("s", 1))))
            trees = random_set(choose, kinds, 2)
            one = random_reader(choose, trees, 1, 2)
            other = one if choose.random() < 0.4 else random_reader(choose, trees, 1, 2)
            told = same_origins(one, other, 1, 4)
            self.assertEqual(told, same_texts(marked(one), marked(other), one_mark(kinds), 1, 4))
            words.add(told[0])
            parting = None
            for tree in every_tree(marked_kinds(kinds), 4):
                if len(marks_in(tree)) == 1:
                    bare, mark = bared(kinds, tree), marks_in(tree)[0]
                    texts = [plain_written(reader, bare) for reader in (one, other)]
                    froms = [text if text is None else [path == mark for _, path in plain_origins(reader, bare)] for text, reader in zip(texts, (one, other))]
                    # The marked readers part just where texts, or the letters of the marked node, do.
                    parts = texts[0] != texts[1] or froms[0] != froms[1]
                    self.assertEqual(plain_written(marked(one), tree) != plain_written(marked(other), tree), parts)
                    if parts and parting is None:
                        parting = tree
            if parting is not None:
                self.assertEqual(told, ("parted", parting))
            else:
                self.assertNotEqual(told[0], "parted")
        self.assertLessEqual({"same", "parted"}, words)

    def test_errors_in_order(self):
        four = readers_of(one_state((("a", 0), ("b", 0), ("c", 0), ("d", 0))), 1, lambda name, states: ((),), lambda state: ())
        self.raises(OtherKinds, same_origins, HAND, four, 0, 0)
        self.raises(BadKinds, same_origins, four, four, 0, 0)
        many = readers_of(one_state(EF), 1, lambda name, states: ((say("a" * 40), room(0, 0)) * 21 if states else (),), lambda state: ())
        wide = readers_of(cycle(45, (), EF), 1, lambda name, states: ((),), lambda state: None)
        self.too_many(60, same_origins, many, HAND, 1, 1)
        self.too_many(60, same_origins, HAND, many, 1, 1)
        self.too_many(4000, same_origins, wide, many, 1, 1)
        self.too_many(60, same_origins, many, wide, 1, 1)
        self.raises(BadDegree, same_origins, HAND, HAND, 0, 0)
        self.raises(BadDegree, same_origins, HAND, HAND, 5, 0)
        self.raises(BadSize, same_origins, HAND, HAND, 1, 0)
        self.raises(BadSize, same_origins, HAND, HAND, 1, 10)
        # Too many comes last.
        self.raises(BadDegree, same_origins, many, wide, 5, 1)
        self.raises(BadSize, same_origins, many, wide, 1, PRIME)
        rooms = readers_of(one_state(ES), 5, lambda name, states: ((),) * 5, lambda state: ())
        self.too_many(8, same_origins, rooms, rooms, 1, 1)
        three = set_of((("a", 0), ("b", 0), ("f", 3)), 1, lambda name, states: 0)
        plain = readers_of(three, 1, lambda name, states: ((),), lambda state: ())
        try:
            same_origins(plain, plain, 1, 9)
        except TooMany as error:
            self.assertEqual(error.most, 3000)
        else:
            self.fail("there are far more trees")
