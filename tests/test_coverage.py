from helpers import (E, EF, ES, FOUR_HUNDRED, ODD, Case, chance, comb, cycle, every_tree, nodes_in, of_parts, one_state, plain_state, random_kinds,
                     random_set, set_of)
from templating import LIST, PAIRS, are_pressed, plain_filled, random_template, say
from samewriting.coverage import coverage, pruned
from samewriting.errors import BadSet, BadTemplate
from samewriting.templates import is_template
from test_templates import along, nested, to, when, with_body

N = ("n",)
EFSU = (("e", 0), ("f", 2), ("s", 1))


def places_in(template):
    """All places, ascending."""
    found = []

    def go(place, body):
        found.append(place)
        for index, item in enumerate(body):
            if item[0] == "if":
                go(place + (index, 0), item[3])
                go(place + (index, 1), item[4])
    for block, bodies in enumerate(template):
        for kind, body in enumerate(bodies):
            go((block, kind), body)
    return sorted(found)


def gone_through(trees, template, tree):
    """The places to which a tree comes, told by filling."""
    names = [name for name, _ in trees[1]]
    found = set()

    def write(block, node):
        kind = names.index(node[0])
        go((block, kind), template[block][kind], node)

    def go(place, body, node):
        found.add(place)
        for index, item in enumerate(body):
            if item[0] == "call":
                write(item[1], node[1 + item[2]])
            elif item[0] == "if":
                way = 0 if plain_state(trees, node[1 + item[1]]) in item[2] else 1
                go(place + (index, way), item[3 + way], node)
            elif item[0] == "for":
                below = node[1 + item[2]]
                while below[0] == item[1]:
                    write(item[3], below[1])
                    below = below[2]
    write(0, tree)
    return found


class Coverage(Case):
    def test_by_hand(self):
        pair = ("p", E, ("p", E, E))
        self.assertEqual(coverage(PAIRS, LIST), (((0, 0), pair), ((0, 1), ("p", E, ("p", N, E))), ((0, 2), ("p", E, E))))
        both = PAIRS[:4] + ((0, 1, 2),)
        self.assertEqual(coverage(both, LIST), (((0, 0), E), ((0, 1), N), ((0, 2), ("p", E, E))))
        self.assertEqual(coverage(PAIRS[:4] + ((),), LIST), (((0, 0), None), ((0, 1), None), ((0, 2), None)))
        # Another body is dead where all states are told.
        body = (when(0, (0, 1, 2), (say("a"),), (say("b"),)),)
        self.assertEqual(coverage(PAIRS, (((), (), body),)),
                         (((0, 0), None), ((0, 1), None), ((0, 2), ("p", E, E)), ((0, 2, 0, 0), ("p", E, E)), ((0, 2, 0, 1), None)))

    def test_order_of_places(self):
        inner = when(0, (0,), (when(1, (1,), ()),), (say("a"),))
        template = (((), (), (say("c"), inner, inner)), ((), (), ()))
        told = coverage(PAIRS, template)
        self.assertEqual([place for place, _ in told], [
            (0, 0), (0, 1), (0, 2), (0, 2, 1, 0), (0, 2, 1, 0, 0, 0), (0, 2, 1, 0, 0, 1), (0, 2, 1, 1), (0, 2, 2, 0), (0, 2, 2, 0, 0, 0),
            (0, 2, 2, 0, 0, 1), (0, 2, 2, 1), (1, 0), (1, 1), (1, 2)])
        self.assertEqual(dict(told)[(0, 2, 1, 0, 0, 0)], ("p", E, N))
        self.assertEqual(dict(told)[(0, 2, 2, 1)], ("p", N, E))
        self.assertIs(dict(told)[(1, 2)], None)

    def test_going_along(self):
        # Block 1 is called on what stands on the left of the second pair or further on.
        template = (((), (), (along(1, 1, name="p"),)), ((), (say("a"),), (to(1, 0),)))
        told = dict(coverage(PAIRS, template))
        self.assertEqual(told[(1, 0)], ("p", E, ("p", E, E)))
        self.assertEqual(told[(1, 1)], ("p", E, ("p", N, E)))
        self.assertEqual(told[(1, 2)], ("p", E, ("p", ("p", E, E), E)))
        self.assertIs(told[(0, 0)], None)
        # The least one may come further on: the first pair of each tree in this set has e on its left.
        trees = set_of(PAIRS[1], 4, lambda name, states: {"e": 0, "n": 1}[name] if not states else
                       2 if states[0] == 0 and states[1] < 2 else 3 if states in ((1, 2), (1, 3), (0, 3)) else 2, (3,))
        told = dict(coverage(trees, template))
        for place, tree in told.items():
            wanted = [tree for tree in every_tree(PAIRS[1], 9) if plain_state(trees, tree) in trees[4] and place in gone_through(trees, template, tree)]
            self.assertEqual(tree, wanted[0] if wanted else None)

    def test_tree_by_tree(self):
        choose = chance(1)
        met = {}
        for _ in range(400):
            kinds = random_kinds(choose)
            trees = random_set(choose, kinds, 3)
            template = random_template(choose, trees, choose.randint(1, 3))
            if not is_template(trees, template):
                continue
            told = coverage(trees, template)
            self.assertEqual([place for place, _ in told], places_in(template))
            first = {}
            some = every_tree(kinds, 6)[:200]
            for tree in some:
                if plain_state(trees, tree) in trees[4]:
                    for place in gone_through(trees, template, tree):
                        first.setdefault(place, tree)
            for place, tree in told:
                if place in first:
                    self.assertEqual(tree, first[place])
                elif tree is not None:
                    self.assertTrue(plain_state(trees, tree) in trees[4] and place in gone_through(trees, template, tree))
                    self.assertGreaterEqual(nodes_in(tree), nodes_in(some[-1]))
                met[tree is None, place in first] = met.get((tree is None, place in first), 0) + 1
        self.assertEqual(set(met), {(True, False), (False, True), (False, False)})

    def test_dead_bodies_are_written_nowhere(self):
        choose = chance(2)
        changed = 0
        for _ in range(200):
            kinds = random_kinds(choose)
            trees = random_set(choose, kinds, 3)
            template = random_template(choose, trees, choose.randint(1, 2))
            if not is_template(trees, template):
                continue
            some = [tree for tree in every_tree(kinds, 5)[:60] if plain_state(trees, tree) in trees[4]]
            for place, tree in coverage(trees, template):
                other = self.with_body_at(template, place, (say("abcab"),))
                if tree is None:
                    self.assertTrue(all(plain_filled(trees, other, tree) == plain_filled(trees, template, tree) for tree in some))
                    changed += 1
        self.assertGreater(changed, 100)

    def with_body_at(self, template, place, body):
        def go(own, path):
            if not path:
                return body
            item = own[path[0]]
            item = item[:3 + path[1]] + (go(item[3 + path[1]], path[2:]),) + item[4 + path[1]:]
            return own[:path[0]] + (item,) + own[path[0] + 1:]
        block, kind = place[:2]
        bodies = template[block][:kind] + (go(template[block][kind], place[2:]),) + template[block][kind + 1:]
        return template[:block] + (bodies,) + template[block + 1:]

    def test_bounds(self):
        # The body is gone through in trees of one state alone, that of a tree of 400 nodes, or of 60 levels.
        def at(trees, state, child_state):
            return with_body((when(0, (child_state,), (say("a"),)),), 1, trees[1])
        large = of_parts(EFSU, FOUR_HUNDRED[:-1] + (FOUR_HUNDRED[-1], ("s", 10)))
        trees = large[:4] + (tuple(range(large[2])),)
        # s of the tree of 400 nodes has 401, the part of it that is s of f has not.
        self.too_many(400, coverage, trees, at(trees, 11, 10))
        self.too_many(400, pruned, trees, at(trees, 11, 10))
        smaller = of_parts(EFSU, FOUR_HUNDRED[:9] + (("f", 7, 3), ("s", 9), ("f", 10, 6)))
        self.assertEqual(nodes_in(dict(coverage(smaller[:4] + (tuple(range(smaller[2])),), at(smaller, 0, 9)))[(0, 2, 0, 0)]), 272)
        chain = set_of(ES, 60, lambda name, states: min(states[0] + 1, 59) if states else 0, tuple(range(60)))
        self.assertEqual(dict(coverage(chain, at(chain, 0, 58)))[(0, 1, 0, 0)], comb(59))
        self.too_many(60, coverage, chain, at(chain, 0, 59))
        self.too_many(60, pruned, chain, at(chain, 0, 59))
        # Depth comes into it only behind all sizes.
        self.too_many(400, coverage, self.deep_and_large(), with_body((when(0, (38,), (say("a"),)),), 1, EF))

    def deep_and_large(self):
        return set_of(EF, 41, lambda name, states: 0 if not states else min(states[0] + 1, 39) if states[0] == states[1] else 40, tuple(range(41)))

    def test_just_four_hundred(self):
        trees = of_parts(EFSU, FOUR_HUNDRED)
        trees = trees[:4] + ((10,),)
        # f, s and e stand in the one tree of the set, of 400 nodes: block 0 goes through all of it.
        template = ((((say("a"),), (to(0, 0), to(0, 1)), (to(0, 0),)),))
        told = coverage(trees, template)
        self.assertEqual({nodes_in(tree) for _, tree in told}, {400})
        more = of_parts(EFSU, FOUR_HUNDRED + (("s", 10),))
        self.too_many(400, coverage, more, template)

    def test_large_ones(self):
        choose = chance(3)
        kinds = (("e", 0), ("f", 2), ("g", 1))
        trees = set_of(kinds, 60, lambda name, states: 0 if name == "e" else (1 + sum(states) * 7 + len(states)) % 60, tuple(range(0, 60, 7)))
        template = tuple(((), tuple(when(number % 2, tuple(sorted(choose.sample(range(60), 20))), (to(choose.randrange(8), 1),), (to(choose.randrange(8), 0),))
                                    for number in range(3)) + tuple(to(choose.randrange(8), number % 2) for number in range(3)), ()) for _ in range(8))
        self.within(20, coverage, trees, template)
        self.within(20, pruned, trees, template)

    def test_errors(self):
        for function in (coverage, pruned):
            for thing in ODD:
                self.raises(BadSet, function, thing, None)
                if thing != ():
                    self.raises(BadTemplate, function, PAIRS, thing)
            self.raises(BadTemplate, function, PAIRS, with_body((), 1, EF))
        self.assertEqual(len(coverage(trees=PAIRS, template=LIST)), 3)


class Pruned(Case):
    def test_by_hand(self):
        body = (when(0, (0, 1, 2), (say("a"),), (say("b"), to(1, 0))), say("c"))
        dead = ((say("a"),), (), (to(0, 0),))
        self.assertEqual(pruned(PAIRS, (((say("b"),), (), body), dead)), (((), (), (say("ac"),)), ((), (), ())))
        alive = (((), (), (when(0, (0,), (say("a"),), (say("b"),)),)),)
        self.assertEqual(pruned(PAIRS, alive), alive)
        self.assertEqual(pruned(PAIRS[:4] + ((),), (((say("b"),), (), body), dead)), (((), (), ()),) * 2)

    def test_ifs_in_ifs(self):
        # In the body of an if the state of the child is known: what asks for it again gives way.
        again = (when(0, (0,), (say("a"), when(0, (0, 1), (say("b"),), (say("c"),)), say("a")), (when(0, (0,), (say("a"),), (to(0, 0),)), say("b"))),)
        self.assertEqual(pruned(PAIRS, (((say("c"),), (), again),)),
                         (((), (), (when(0, (0,), (say("aba"),), (to(0, 0), say("b"))),)),))
        # An other that is dead goes with all in it.
        self.assertEqual(pruned(PAIRS, (((), (), (when(0, (0, 1, 2), nested(11), nested(11)),)),)), (((), (), (when(0, (0,), ()),)),))

    def test_random_ones(self):
        choose = chance(4)
        met = set()
        for _ in range(300):
            kinds = random_kinds(choose)
            trees = random_set(choose, kinds, 3)
            template = random_template(choose, trees, choose.randint(1, 3), 3)
            if not is_template(trees, template):
                continue
            told = pruned(trees, template)
            self.assertIs(is_template(trees, told), True)
            for place, tree in coverage(trees, told):
                self.assertTrue(tree is not None or len(place) == 2)
            self.assertEqual(pruned(trees, told), told)
            self.assertTrue(all(are_pressed(body) for block in told for body in block))
            for tree in every_tree(kinds, 5)[:40]:
                if plain_state(trees, tree) in trees[4]:
                    self.assertEqual(plain_filled(trees, told, tree), plain_filled(trees, template, tree))
            met.add(told == template)
        self.assertEqual(met, {True, False})

    def test_items(self):
        every = one_state(EF)

        def template(many, said=()):
            return with_body((when(0, (0,), (to(0, 0),) * many),) + (to(0, 1),) * 30 + said)
        self.assertEqual(pruned(every, template(30)), (((), (to(0, 0),) * 30 + (to(0, 1),) * 30),))
        self.too_many(60, pruned, every, template(31))
        self.too_many(60, pruned, every, template(30, (say("a"),)))
        # Says that are put together count once, and are cut.
        says = (when(0, (0,), (say("a" * 30), to(0, 0))), when(0, (0,), (say("b" * 20),)), say("c" * 30))
        self.assertEqual(pruned(every, with_body(says)), (((), (say("a" * 30), to(0, 0), say("b" * 20 + "c" * 20), say("c" * 10))),))
        # In bodies of ifs as well.
        two = set_of(EF, 2, lambda name, states: int(name == "f"), (0, 1))
        inner = when(0, (0,), (when(0, (0,), (to(0, 0),) * 31),) + (to(0, 1),) * 30, ())
        self.too_many(60, pruned, two, with_body((inner,)))
        # What is dead counts nothing.
        dead = when(0, (0,), (when(0, (1,), (to(0, 0),) * 31),) + (to(0, 1),) * 30, ())
        self.assertEqual(pruned(two, with_body((dead,)))[0][1], (when(0, (0,), (to(0, 1),) * 30),))

    def test_example(self):
        self.assertEqual(pruned(PAIRS, LIST), LIST)
        for tree in every_tree(PAIRS[1], 5):
            self.assertEqual(plain_filled(PAIRS, pruned(PAIRS, LIST), tree), plain_filled(PAIRS, LIST, tree))
        self.assertEqual(pruned(trees=cycle(2, (0, 1)), template=with_body((), 2, ES)), with_body((), 2, ES))
