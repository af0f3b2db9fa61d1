from helpers import EF, EFS, ES, ODD, Case, chance, comb, cycle, every_tree, one_state, plain_state, random_kinds, random_set, set_of, wrong_kinds
from templating import ENP, LIST, PAIRS, plain_called, plain_filled, random_template, say
from samewriting.compiling import as_template, writer_of
from samewriting.errors import BadSet, BadTemplate, BadTree, TooMany
from samewriting.filling import filled
from samewriting.plainly import plain
from test_templates import along, nested, to, when, with_body

E, N = ("e",), ("n",)
ALL_PAIRS = PAIRS[:4] + ((0, 1, 2),)


def chain(many, last=E, name="p", item=N):
    """A list of so many items."""
    tree = last
    for _ in range(many):
        tree = (name, item, tree)
    return tree


class Filled(Case):
    def test_by_hand(self):
        self.assertEqual(filled(PAIRS, LIST, ("p", E, E)), "c")
        self.assertEqual(filled(PAIRS, LIST, ("p", E, ("p", N, ("p", N, E)))), "aba")
        self.assertEqual(filled(ALL_PAIRS, LIST, N), "a")
        self.assertEqual(filled(ALL_PAIRS, LIST, E), "")
        self.assertEqual(filled(ALL_PAIRS, LIST, ("p", E, N)), "c")
        self.assertEqual(filled(trees=PAIRS, template=LIST, tree=("p", E, E)), "c")

    def test_by_words(self):
        choose = chance(1)
        texts = set()
        for _ in range(150):
            kinds = random_kinds(choose)
            trees = random_set(choose, kinds, 3)
            template = random_template(choose, trees, choose.randint(1, 3))
            for tree in every_tree(kinds, 6)[:40]:
                if plain_state(trees, tree) in trees[4]:
                    told = filled(trees, template, tree)
                    self.assertEqual(told, plain_filled(trees, template, tree))
                    texts.add(told)
                else:
                    self.raises(BadTree, filled, trees, template, tree)
        self.assertGreater(len(texts), 100)

    def test_as_plain_and_as_writers(self):
        choose = chance(2)
        done = 0
        for _ in range(60):
            kinds = random_kinds(choose)
            trees = random_set(choose, kinds, 2)
            trees = trees[:4] + (tuple(range(trees[2])),)
            template = random_template(choose, trees, choose.randint(1, 2), 1)
            try:
                writer = writer_of(trees, template)
                back = as_template(writer)
            except TooMany:
                continue
            done += 1
            for tree in every_tree(kinds, 5)[:30]:
                told = filled(trees, template, tree)
                self.assertEqual(filled(trees, plain(trees, template), tree), told)
                self.assertEqual(filled(trees, back, tree), told)
                self.assertEqual(plain_called(writer, 0, tree), told)
        self.assertGreater(done, 20)

    def test_many_loops(self):
        # More loops than plain lets: each for is filled nevertheless.
        fors = tuple(along(1, 0, "abc"[number % 3] * (number // 3), "c" * (number % 9), "p") for number in range(25))
        template = (((), (say("a"),), fors),)
        self.too_many(8, plain, PAIRS, template)
        for tree in (("p", E, E), ("p", N, chain(3)), ("p", E, chain(2, ("p", N, N)))):
            self.assertEqual(filled(PAIRS, template, tree), plain_filled(PAIRS, template, tree))
        inner = (when(0, (0, 1), (along(1, 1, "b", "c", "p"), when(1, (2,), (to(1, 0),), (say("bb"),))), (along(0, 0, "", "", "p"),)),)
        template = (((say("c"),), (say("a"),), inner), ((say("b"),), (say("a" * 40), say("b")), (to(0, 0), along(1, 1, "c", "", "p"))))
        for tree in every_tree(ENP, 9):
            if tree[0] == "p":
                self.assertEqual(filled(PAIRS, template, tree), plain_filled(PAIRS, template, tree))

    def test_ten_thousand_letters(self):
        trees = PAIRS
        # 2000 letters for each n.
        tens = (((), (say("a" * 40),) * 50, (to(0, 0), to(0, 1))),)
        self.assertEqual(filled(trees, tens, chain(5)), "a" * 10000)
        self.too_many(10000, filled, trees, tens, chain(6))
        more = (((say("b"),), (say("a" * 40),) * 50, (to(0, 0), to(0, 1))),)
        self.too_many(10000, filled, trees, more, chain(5))
        self.assertEqual(filled(trees, more, chain(4)), "a" * 8000 + "b")
        # What is between counts too.
        between = (((), (), (along(1, 1, "b", "", "p"),)), ((), (say("a" * 40),) * 50, ()))
        self.assertEqual(len(filled(trees, between, ("p", E, chain(4)))), 8003)
        self.too_many(10000, filled, trees, between, ("p", E, chain(5)))

    def test_what_does_not_come_into_it(self):
        # Block 1 writes far too much, and is not called in the end; and it is called in vain again and again.
        template = ((() if name == "e" else (when(0, (1,), (to(1, 0),), (say("a"),)),) for name in "es"),)
        template = (tuple(template[0]), ((say("b"),), (to(1, 0),) * 60))
        trees = set_of(ES, 2, lambda name, states: 0, (0,))
        self.assertEqual(self.within(5, filled, trees, template, comb(59)), "a")
        empty = (((), (to(0, 0),) * 60),)
        self.assertEqual(self.within(5, filled, one_state(ES), empty, comb(59)), "")
        endless = (((say("a"),), (to(0, 0),) * 60),)
        self.within(5, self.too_many, 10000, filled, one_state(ES), endless, comb(59))

    def test_large_trees(self):
        long = chain(59)
        self.assertEqual(filled(PAIRS, LIST, ("p", E, chain(58))), "ab" * 57 + "a")
        self.raises(BadTree, filled, PAIRS, LIST, ("p", E, long))
        deep = with_body(nested(12, (say("a"),)) + (to(0, 0), to(0, 1)))
        self.assertEqual(self.within(5, filled, one_state(EF), deep, chain(59, E, "f", E)), "a" * 59)
        full = E
        for _ in range(7):
            full = ("f", full, full)
        self.assertEqual(len(self.within(5, filled, cycle(1, (0,), EF), with_body((along(0, 0, "ab", "c"), to(0, 1))), full)),
                         len(plain_filled(one_state(EF), with_body((along(0, 0, "ab", "c"), to(0, 1))), full)))

    def test_errors_in_order(self):
        for thing in ODD:
            self.raises(BadSet, filled, thing, None, None)
            self.raises(BadTemplate, filled, PAIRS, thing, None)
            if thing != E:
                self.raises(BadTree, filled, PAIRS, LIST, thing)
        for tree in wrong_kinds(("p", N, E)):
            self.raises(BadTree, filled, PAIRS, LIST, tree)
        self.raises(BadTree, filled, PAIRS, LIST, N)
        tens = (((), (say("a" * 40),) * 60, (to(0, 0),)),)
        self.raises(BadTree, filled, PAIRS[:4] + ((0,),), tens, ("p", N, N))
        self.raises(BadTemplate, filled, PAIRS, (((), (), (to(1, 0),)),), N)
        self.assertEqual(filled(set_of(EFS, 1, lambda name, states: 0, (0,)), (((say("a"),), (), (to(0, 0),)),), comb(3)), "a")
