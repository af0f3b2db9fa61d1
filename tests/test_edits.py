from helpers import (E, EF, EFS, ES, ODD, Case, balanced, chance, comb, cycle, every_tree, left_comb, levels_in, nodes_in, one_state, plain_state, random_kinds,
                     random_set, readers_of, set_of, wrong_kinds)
from templating import plain_rooms, plain_written, random_reader, room, say
from test_readers import HAND
from samewriting.edits import Keeper, around, changed, stretch
from samewriting.errors import BadPath, BadReader, BadTree, NotLetBy, TooMany
from samewriting.readers import rooms_at, written

T = ("f", E, E)
BAD_PATHS = (None, 0, "", [], [0], (2,), (-1,), (0, 0), (True,), (False,), (None,), ("0",), (0.0,), ((0,),), (0, 0, 0), (1, 0))


def paths_in(tree):
    return [()] + [(step,) + path for step, child in enumerate(tree[1:]) for path in paths_in(child)]


def part_at(tree, path):
    return part_at(tree[path[0] + 1], path[1:]) if path else tree


def put_at(tree, path, other):
    if not path:
        return other
    return tree[:path[0] + 1] + (put_at(tree[path[0] + 1], path[1:], other),) + tree[path[0] + 2:]


def kept_at(reader, tree):
    return plain_state(reader[1], tree), plain_rooms(reader, tree)


def many_told(reader, tree, path, other):
    """What put returns, by the words of the document."""
    many = nodes_in(other)
    new = put_at(tree, path, other)
    for length in range(len(path), 0, -1):
        if kept_at(reader, part_at(new, path[:length])) == kept_at(reader, part_at(tree, path[:length])):
            break
        many += 1
    return many


def is_let_tree(tree):
    return nodes_in(tree) <= 400 and levels_in(tree) <= 60


def growing(end=(room(0, 0),), dropped=False, letters=1):
    """Room 0 has 2 ** n letters, times those of the leaf, after n times s; what hangs on it is told by the end."""
    def rule(name, states):
        return ((say("a" * letters),) if name == "e" else (room(0, 0),) * 2, () if dropped or name == "e" else (say("b"),))
    return readers_of(one_state(ES), 2, rule, lambda state: end)


def exactly(many, end=(room(0, 0),)):
    """A reader whose room 0 of the tree comb(3) has 10,000 letters and `many` more; that of comb(2) has 1000."""
    def rule(name, states):
        if name == "e":
            return ((say("ab" * 20),),)
        more = (say("c" * many),) if many and states == (2,) else ()
        return ((room(0, 0),) * (10 if states == (2,) else 5) + more,)
    return readers_of(cycle(5), 1, rule, lambda state: end)


class Keepers(Case):
    def check(self, keeper, reader, tree):
        """A keeper tells what a new one of the kept tree tells, and what the tree has."""
        self.assertEqual(keeper.tree(), tree)
        self.assertEqual(keeper.text(), plain_written(reader, tree))
        for path in paths_in(tree):
            self.assertEqual(keeper.kept(path), kept_at(reader, part_at(tree, path)))

    def test_by_hand(self):
        keeper = Keeper(HAND, T)
        self.assertEqual(keeper.text(), "aba")
        self.assertEqual(keeper.kept(()), (0, ("aba",)))
        self.assertEqual(keeper.put((1,), T), 4)
        self.assertEqual(keeper.tree(), ("f", E, T))
        self.assertEqual(keeper.text(), "aba")
        self.assertEqual(keeper.kept((1,)), (0, ("aba",)))
        self.assertEqual(keeper.put(path=(0,), other=T), 4)
        self.assertEqual(keeper.text(), "abababa")
        self.assertIs(keeper.undo(), True)
        self.assertEqual(keeper.text(), "aba")
        self.assertEqual(keeper.tree(), ("f", E, T))
        self.assertIs(keeper.undo(), True)
        self.check(keeper, HAND, T)
        self.assertIs(keeper.undo(), False)
        self.assertIs(keeper.undo(), False)
        self.check(keeper, HAND, T)
        # Nothing above is told anew if other has the state and rooms of the part.
        self.assertEqual(keeper.put((0,), E), 1)
        self.assertEqual(keeper.put((), T), 3)
        self.assertEqual(keeper.put((), ("f", E, balanced(3))), 9)
        self.assertEqual(keeper.put((1, 0), E), 1 + 2)
        self.assertEqual(keeper.put((1, 1), E), 1 + 1)
        self.assertEqual(keeper.kept(path=(1,)), (0, ("aba",)))

    def test_sessions(self):
        choose = chance(1)
        stops = set()
        for _ in range(80):
            kinds = random_kinds(choose)
            reader = random_reader(choose, random_set(choose, kinds, 3), choose.randint(1, 3), 2)
            few = every_tree(kinds, 5)[:60]
            tree = choose.choice(few)
            keeper = Keeper(reader, tree)
            history = []
            for _ in range(12):
                if choose.random() < 0.3:
                    self.assertIs(keeper.undo(), bool(history))
                    tree = history.pop() if history else tree
                else:
                    path, other = choose.choice(paths_in(tree)), choose.choice(few)
                    new = put_at(tree, path, other)
                    if levels_in(new) > 9:
                        continue
                    told = keeper.put(path, other)
                    self.assertEqual(told, many_told(reader, tree, path, other))
                    self.assertLessEqual(told, nodes_in(other) + len(path))
                    stops.add(len(path) - (told - nodes_in(other)))
                    history.append(tree)
                    tree = new
                self.check(keeper, reader, tree)
            fresh = Keeper(reader, tree)
            for path in paths_in(tree):
                self.assertEqual(fresh.kept(path), keeper.kept(path))
            while history:
                tree = history.pop()
                self.assertIs(keeper.undo(), True)
                self.check(keeper, reader, tree)
            self.assertIs(keeper.undo(), False)
        self.assertLessEqual({0, 1, 2}, stops)

    def test_told_anew(self):
        # The rooms are the same throughout: how far it goes hangs on the states.
        reader = readers_of(cycle(2, (), EFS), 1, lambda name, states: ((say("a"),),) if name == "e" else ((room(0, 0),),), lambda state: (room(0, 0),))
        deep = ("f", ("s", ("s", ("s", E))), E)
        keeper = Keeper(reader, deep)
        self.assertEqual(keeper.put((0, 0, 0), E), 1 + 3)
        self.assertIs(keeper.undo(), True)
        self.assertEqual(keeper.put((0, 0, 0), ("s", ("s", ("s", E)))), 4)
        self.assertEqual(keeper.kept((0, 0)), (0, ("a",)))
        self.assertEqual(keeper.tree(), ("f", ("s", ("s", ("s", ("s", ("s", E))))), E))
        # Two states become one again on the way up.
        ends = set_of(EFS, 2, lambda name, states: {"e": 0, "s": 1, "f": 0}[name])
        keeper = Keeper(readers_of(ends, 1, lambda name, states: ((say("a"),),), lambda state: None), ("s", ("f", ("f", E, E), E)))
        self.assertEqual(keeper.put((0, 0, 1), ("s", E)), 2 + 1)
        self.assertEqual(keeper.kept((0, 0, 1)), (1, ("a",)))
        self.assertEqual(keeper.kept((0, 0)), (0, ("a",)))

    def test_errors(self):
        for thing in ODD:
            self.raises(BadReader, Keeper, thing, None)
            if thing != E:
                self.raises(BadTree, Keeper, HAND, thing)
        keeper = Keeper(HAND, T)
        for path in BAD_PATHS:
            self.raises(BadPath, keeper.put, path, None)
            self.raises(BadPath, keeper.kept, path)
        for other in ODD:
            if other != E:
                self.raises(BadTree, keeper.put, (), other)
                self.raises(BadTree, keeper.put, (0,), other)
        for other in wrong_kinds(T):
            self.raises(BadTree, keeper.put, (1,), other)
        self.check(keeper, HAND, T)
        self.assertIs(keeper.undo(), False)
        self.assertEqual(Keeper(reader=HAND, tree=T).text(), "aba")

    def test_sizes_and_depths(self):
        # 400 nodes and 401, 60 levels and 61; each error leaves all as it was.
        reader = readers_of(one_state(EFS), 1, lambda name, states: ((say("a"),),), lambda state: (room(0, 0),))
        full = ("f", balanced(8), ("f", balanced(7), ("s", ("f", ("s", E), ("s", ("s", ("s", E)))))))
        self.assertEqual(nodes_in(full), 255 + 127 + 2 + 1 + 7)
        keeper = Keeper(reader, full)
        more = E
        for _ in range(8):
            more = ("s", more)
        self.assertEqual(keeper.put((1, 1, 0, 0, 0), more), 9)
        self.assertEqual(nodes_in(keeper.tree()), 400)
        before = keeper.tree()
        self.raises(BadTree, keeper.put, (1, 1, 0, 0, 0), ("s", more))
        self.assertEqual(keeper.tree(), before)
        self.assertEqual(keeper.put((0, 0), E), 1)
        self.assertEqual(nodes_in(keeper.tree()), 400 - 126)
        deep = Keeper(readers_of(one_state(ES), 1, lambda name, states: ((),), lambda state: ()), comb(40))
        self.assertEqual(deep.put((0,) * 40, comb(19)), 20)
        self.assertEqual(levels_in(deep.tree()), 60)
        self.raises(BadTree, deep.put, (0,) * 40, comb(20))
        self.raises(BadTree, deep.put, (0,) * 59, comb(1))
        self.raises(BadTree, deep.put, (), comb(60))
        self.assertEqual(deep.tree(), comb(59))
        self.assertIs(deep.undo(), True)
        self.assertIs(deep.undo(), False)
        self.assertEqual(deep.tree(), comb(40))

    def test_ten_thousand_letters(self):
        just, over = exactly(0), exactly(1)
        self.assertEqual(len(Keeper(just, comb(3)).text()), 10000)
        self.too_many(10000, Keeper, over, comb(3))
        for reader in (just, over):
            keeper = Keeper(reader, comb(2))
            if reader == just:
                self.assertEqual(keeper.put((0, 0), comb(1)), 2 + 2)
                self.assertEqual(len(keeper.text()), 10000)
            else:
                self.too_many(10000, keeper.put, (0, 0), comb(1))
                self.too_many(10000, keeper.put, (), comb(3))
                self.check(keeper, reader, comb(2))
                self.assertIs(keeper.undo(), False)
        # Also rooms count on which nothing hangs; the text is told apart from them.
        self.assertEqual(Keeper(growing((say("c"),)), comb(13)).text(), "c")
        self.too_many(10000, Keeper, growing((say("c"),)), comb(14))
        self.too_many(10000, Keeper, growing(None), comb(14))
        self.assertIs(Keeper(growing(None), comb(13)).text(), None)
        long = Keeper(exactly(0, (room(0, 0), say("c"))), comb(3))
        self.too_many(10000, long.text)
        self.assertEqual(long.kept(())[0], 3)
        self.assertEqual(Keeper(growing((room(0, 0),) * 2), comb(12)).text(), "a" * 8192)
        self.too_many(10000, Keeper(growing((room(0, 0),) * 2), comb(13)).text)
        # A node that is told anew has too many letters, though the root drops them.
        dropping = readers_of(cycle(60), 1, lambda name, states: ((say("a"),),) if name == "e" else ((say("b"),),) if states == (58,) else ((room(0, 0),) * 2,),
                              lambda state: (room(0, 0),))
        self.too_many(10000, Keeper, dropping, comb(59))
        self.too_many(10000, Keeper(dropping, comb(3)).put, (), comb(59))

    def test_what_is_told_may_be_changed(self):
        keeper = Keeper(HAND, T)
        told = (keeper.tree(), keeper.kept(()))
        keeper.put((0,), T)
        self.assertEqual(told, (T, (0, ("aba",))))

    def test_soon(self):
        wide = readers_of(cycle(3, (), EF), 8, lambda name, states: tuple((room(0, number), room(1, number), say("a"))[:3 if states else 0] or (say("ab"),)
                          for number in range(8)), lambda state: (room(0, 0),))
        keeper = self.within(5, Keeper, wide, balanced(8))
        for number in range(60):
            self.within(2, keeper.put, (0, 1, 0, 1), (balanced(2), balanced(3))[number % 2])
        self.assertEqual(keeper.text(), written(wide, keeper.tree()))


class Changed(Case):
    def plain(self, reader, tree, path, other):
        new = put_at(tree, path, other)
        ways = [path[:length] for length in range(len(path) + 1)]
        return tuple(way for way in ways if kept_at(reader, part_at(tree, way)) != kept_at(reader, part_at(new, way)))

    def test_by_hand(self):
        self.assertEqual(changed(HAND, T, (1,), T), ((1,),))
        self.assertEqual(changed(HAND, T, (0,), T), ((), (0,)))
        self.assertEqual(changed(HAND, T, (), T), ())
        self.assertEqual(changed(HAND, T, (), E), ((),))
        self.assertEqual(changed(HAND, T, (0,), E), ())
        self.assertEqual(changed(reader=HAND, tree=("f", T, E), path=(0, 1), other=T), ((0, 1),))

    def test_by_words(self):
        choose = chance(2)
        lengths = set()
        for _ in range(300):
            kinds = random_kinds(choose)
            reader = random_reader(choose, random_set(choose, kinds, 3), choose.randint(1, 3), 2)
            few = every_tree(kinds, 6)[:100]
            tree, other = choose.choice(few), choose.choice(few)
            path = choose.choice(paths_in(tree))
            told = changed(reader, tree, path, other)
            self.assertEqual(told, self.plain(reader, tree, path, other))
            self.assertEqual(told, tuple(sorted(told)))
            if told:
                # Each longer beginning of the path is among them.
                self.assertEqual(told, tuple(path[:length] for length in range(len(told[0]), len(path) + 1)))
            lengths.add((len(told), len(path)))
        self.assertGreater(len(lengths), 6)

    def test_ten_thousand_letters(self):
        over, just = exactly(1), exactly(0)
        self.assertEqual(changed(just, comb(2), (), comb(3)), ((),))
        self.too_many(10000, changed, over, comb(2), (), comb(3))
        self.too_many(10000, changed, over, comb(3), (), comb(2))
        # A room beside the path, on which nothing hangs.
        reader = growing((say("c"),))
        self.assertEqual(changed(reader, comb(13), (0,), E), ((), (0,)))
        self.too_many(10000, changed, reader, comb(14), (0,) * 14, E)
        self.too_many(10000, changed, reader, comb(13), (0,) * 13, comb(1))
        self.assertEqual(changed(growing((), False), comb(13), (0,) * 13, E), ())

    def test_errors(self):
        for function in (changed, stretch):
            for thing in ODD:
                self.raises(BadReader, function, thing, None, None, None)
                if thing != E:
                    self.raises(BadTree, function, HAND, thing, None, None)
                    self.raises(BadTree, function, HAND, T, (0,), thing)
            for path in BAD_PATHS:
                self.raises(BadPath, function, HAND, T, path, None)
            deep = readers_of(one_state(ES), 1, lambda name, states: ((),), lambda state: None)
            self.raises(BadTree, function, deep, comb(30), (0,) * 30, comb(30))
            self.raises(BadTree, function, deep, comb(59), (), comb(60))
            self.raises(BadTree, function, HAND, balanced(8), (1,) * 7, balanced(8))
        self.assertEqual(changed(deep, comb(30), (0,) * 30, comb(29)), ())
        self.raises(NotLetBy, stretch, deep, comb(30), (0,) * 30, comb(29))


class Stretch(Case):
    def test_by_hand(self):
        self.assertEqual(stretch(HAND, T, (0,), T), (3, "", "baba"))
        self.assertEqual(stretch(HAND, ("f", T, E), (0,), E), (3, "baba", ""))
        self.assertEqual(stretch(HAND, T, (1,), T), (3, "", ""))
        self.assertEqual(stretch(HAND, T, (), E), (1, "ba", ""))
        self.assertEqual(stretch(reader=HAND, tree=E, path=(), other=E), (1, "", ""))

    def test_by_words(self):
        choose = chance(3)
        met = set()
        for _ in range(400):
            kinds = random_kinds(choose)
            reader = random_reader(choose, random_set(choose, kinds, 2), choose.randint(1, 2), 3)
            few = every_tree(kinds, 6)[:100]
            tree, other = choose.choice(few), choose.choice(few)
            path = choose.choice(paths_in(tree))
            texts = [plain_written(reader, one) for one in (tree, put_at(tree, path, other))]
            if None in texts:
                self.raises(NotLetBy, stretch, reader, tree, path, other)
                met.add(None)
                continue
            start, old, new = stretch(reader, tree, path, other)
            before, after = texts
            self.assertEqual(before[:start], after[:start])
            self.assertTrue(start == min(len(before), len(after)) or before[start] != after[start])
            self.assertEqual(before[start:start + len(old)], old)
            # The old text with new in the place of old is the new text.
            self.assertEqual(before[:start] + new + before[start + len(old):], after)
            # Both are the shortest ones.
            self.assertFalse(old and new and old[-1] == new[-1])
            met.add((bool(old), bool(new)))
        self.assertEqual(met, {None, (True, True), (True, False), (False, True), (False, False)})

    def test_let_by(self):
        reader = readers_of(cycle(2), 1, lambda name, states: ((say("a"),) if name == "e" else (room(0, 0), say("b")),), lambda state: None if state else (room(0, 0),))
        self.assertEqual(stretch(reader, comb(2), (0,), comb(3)), (3, "", "bb"))
        self.raises(NotLetBy, stretch, reader, comb(2), (0,), E)
        self.raises(NotLetBy, stretch, reader, comb(1), (0,), comb(1))
        long = readers_of(cycle(2), 1, lambda name, states: ((say("a"),) if name == "e" else (room(0, 0),) * 2,), lambda state: None if state else (room(0, 0),))
        self.raises(NotLetBy, stretch, long, comb(59), (), comb(58))
        self.raises(NotLetBy, stretch, long, comb(58), (), comb(59))
        self.too_many(10000, stretch, long, comb(58), (), E)
        self.too_many(10000, stretch, long, E, (), comb(58))

    def test_ten_thousand_letters(self):
        self.assertEqual(stretch(exactly(0), comb(2), (), comb(3)), (1000, "", "ab" * 4500))
        self.too_many(10000, stretch, exactly(1), comb(2), (), comb(3))
        self.too_many(10000, stretch, exactly(1), comb(3), (), comb(2))
        # Rooms that do not come into the texts may be longer.
        self.assertEqual(self.within(5, stretch, growing((say("c"), room(0, 1))), comb(59), (0,), E), (2, "", ""))
        self.assertEqual(stretch(growing((say("c"), room(0, 1))), comb(59), (), E), (1, "b", ""))


class Around(Case):
    def test_by_hand(self):
        self.assertEqual(around(HAND, T, (0,)), ((0, "b", 0),))
        self.assertEqual(around(HAND, T, (1,)), (("aba",),))
        self.assertEqual(around(HAND, T, ()), ((0,),))
        self.assertEqual(around(HAND, ("f", ("f", E, T), E), (0, 0)), ((0, "b", 0, "b", 0, "b", 0),))
        self.assertEqual(around(reader=HAND, tree=("f", T, E), path=(0, 1)), (("abababa",),))

    def check(self, reader, tree, path, others):
        told = around(reader, tree, path)
        self.assertEqual(len(told), reader[1][2])
        for parts in told:
            if parts is not None:
                self.assertTrue(all(isinstance(part, str) and part or isinstance(part, int) and 0 <= part < reader[2] for part in parts))
                self.assertFalse(any(isinstance(one, str) and isinstance(other, str) for one, other in zip(parts, parts[1:])))
        # What is written of every tree that stands there.
        for other in others:
            state, rooms = kept_at(reader, other)
            text = plain_written(reader, put_at(tree, path, other))
            parts = told[state]
            self.assertEqual(text, None if parts is None else "".join(part if isinstance(part, str) else rooms[part] for part in parts))
        return told

    def test_by_words(self):
        choose = chance(4)
        met = set()
        for _ in range(200):
            kinds = random_kinds(choose)
            reader = random_reader(choose, random_set(choose, kinds, 3), choose.randint(1, 4), 2)
            few = every_tree(kinds, 5)[:60]
            tree = choose.choice(few)
            told = self.check(reader, tree, choose.choice(paths_in(tree)), few)
            met |= {parts if parts is None else parts == () for parts in told}
        self.assertEqual(met, {None, True, False})

    def test_states_that_no_tree_has(self):
        # By the rows alone: also for states that no tree has.
        trees = ("set", ES, 3, ((0,), (0, 2, 1)), ())
        reader = readers_of(trees, 1, lambda name, states: ((say("a"),) if not states else (say("abc"[states[0]]), room(0, 0)),), lambda state: (None, (room(0, 0),), ())[state])
        self.assertEqual(around(reader, comb(1), (0,)), (None, (), ("c", 0)))
        self.assertEqual(around(reader, comb(2), (0, 0)), (None, ("cb", 0), ()))
        self.assertEqual(around(reader, comb(2), (0, 0))[1:], (("cb", 0), ()))
        self.assertEqual(around(reader, comb(3), ()), (None, (0,), ()))

    def test_ten_thousand(self):
        # Letters and numbers are counted together.
        def many(letters, numbers):
            rest = (say("c" * 39),) * (letters // 39) + ((say("b" * (letters % 39)),) if letters % 39 else ())
            def rule(name, states):
                if states == (1,):
                    return ((room(0, 0),) * 50, (room(0, 1),) * 50)
                if states == (0,):
                    return ((room(0, 0),) * numbers, rest)
                return ((), ())
            return readers_of(set_of(ES, 3, lambda name, states: min(2, states[0] + 1) if states else 0), 2, rule, lambda state: (room(0, 0), room(0, 1)))
        told = around(many(190, 10), comb(2), (0, 0))
        self.assertEqual(len(told[0]), 500 + 1)
        self.assertEqual(told[0][:500], (0,) * 500)
        self.assertEqual(len(told[0][500]), 9500)
        self.assertEqual(sum(len(part) if isinstance(part, str) else 1 for part in told[0]), 10000)
        self.too_many(10000, around, many(191, 10), comb(2), (0, 0))
        self.too_many(10000, around, many(190, 11), comb(2), (0, 0))
        # One of the tuples, whichever state has it.
        self.assertEqual(len(around(many(200, 0), comb(2), (0, 0))[0][0]), 10000)
        self.assertEqual(around(growing(), comb(13), (0,) * 13), ((0,) * 8192,))
        self.too_many(10000, around, growing(), comb(14), (0,) * 14)
        last = readers_of(cycle(60), 1, lambda name, states: ((room(0, 0),) * (2 if states and states[0] > 40 else 1) if states else (say("a"),),), lambda state: (room(0, 0),))
        self.too_many(10000, around, last, comb(20), (0,) * 20)
        self.assertEqual(len(around(last, comb(12), (0,) * 12)[59]), 2)

    def test_what_does_not_come_into_it(self):
        reader = growing((room(0, 1), say("c")))
        self.assertEqual(self.within(5, around, reader, comb(59), (0,) * 59), (("bc",),))
        self.assertEqual(self.within(5, around, reader, comb(59), (0,) * 30), (("bc",),))
        # Trees beside the way may have far too long rooms.
        beside = readers_of(one_state(EF), 2, lambda name, states: ((room(0, 0), room(0, 0), room(1, 0)), (room(0, 1), say("b"))) if states else ((say("a"),), (say("c"),)),
                            lambda state: (room(0, 1),))
        self.assertEqual(self.within(5, around, beside, ("f", left_comb(50), T), (1, 0)), (("c" + "b" * 51,),))
        self.too_many(10000, around, readers_of(one_state(EF), 1, lambda name, states: ((room(0, 0), room(0, 0), room(1, 0)),) if states else ((say("a"),),), lambda state: (room(0, 0),)),
                      ("f", left_comb(50), T), (1, 0))
        sixty = readers_of(cycle(60, (), EF), 8, lambda name, states: tuple((room(0, number), room(1, number)) if states else () for number in range(8)), lambda state: (room(0, 3), room(0, 4)))
        self.assertEqual(self.within(10, around, sixty, balanced(8), (0,) * 7), ((3, 4),) * 60)

    def test_errors(self):
        for thing in ODD:
            self.raises(BadReader, around, thing, None, None)
            if thing != E:
                self.raises(BadTree, around, HAND, thing, None)
        for path in BAD_PATHS:
            self.raises(BadPath, around, HAND, T, path)
        self.raises(BadPath, around, growing(), comb(59), (0,) * 60)
        self.raises(BadTree, around, growing(), comb(60), None)


class TogetherWithReaders(Case):
    def test_kept_is_rooms_at(self):
        choose = chance(5)
        for _ in range(60):
            kinds = random_kinds(choose)
            reader = random_reader(choose, random_set(choose, kinds, 3), 2, 2)
            tree = choose.choice(every_tree(kinds, 6)[:100])
            keeper = Keeper(reader, tree)
            for path in paths_in(tree):
                self.assertEqual(keeper.kept(path), rooms_at(reader, part_at(tree, path)))
            try:
                self.assertEqual(keeper.text(), written(reader, tree))
            except NotLetBy:
                self.assertIs(keeper.text(), None)
            except TooMany:
                self.fail("no text is so long")
