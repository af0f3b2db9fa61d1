import itertools

from helpers import (EF, EFS, ES, ODD, Case, chance, cycle, every_tree, one_state, random_kinds,
                     random_set, set_of, wrong_kinds, wrong_lengths)
from templating import (ENP, LIST, PAIRS, are_pressed, call, plain_called, plain_filled, plain_plain, random_template,
                        random_writer, say)
from samewriting.alike import same_templates
from samewriting.codes import same_texts
from samewriting.compiling import as_template, writer_of
from samewriting.errors import BadDegree, BadSet, BadSize, BadTemplate, BadWriter, TooMany
from samewriting.plainly import plain
from samewriting.templates import is_template, items_in
from samewriting.turning import as_reader
from samewriting.writers import is_writer
from test_writers import writer_over

EVERY = one_state(EF)


def to(block, child):
    return ("call", block, child)


def when(child, states, body, other=()):
    return ("if", child, states, body, other)


def along(child, block, between="", instead="", name="f"):
    return ("for", name, child, block, between, instead)


def with_body(body, blocks=1, kinds=EF):
    """A template of blocks that are empty but for the body of the first one for the last kind."""
    first = ((),) * (len(kinds) - 1) + (body,)
    return (first,) + (((),) * len(kinds),) * (blocks - 1)


def nested(many, body=()):
    for _ in range(many):
        body = (when(0, (0,), body),)
    return body


class IsTemplate(Case):
    def test_right_ones(self):
        self.assertIs(is_template(PAIRS, LIST), True)
        self.assertEqual(items_in(PAIRS, LIST), 2)
        choose = chance(1)
        for _ in range(40):
            kinds = random_kinds(choose)
            trees = random_set(choose, kinds, 4)
            template = random_template(choose, trees, choose.randint(1, 8))
            self.assertIs(is_template(trees, template), self.items(template) <= 100)

    def items(self, template):
        def within(body):
            return sum(1 + (within(item[3]) + within(item[4]) if item[0] == "if" else 0) for item in body)
        return sum(within(body) for block in template for body in block)

    def fits(self, body, blocks=2, kinds=EF, trees=None):
        return is_template(trees or one_state(kinds), with_body(body, blocks, kinds))

    def test_items(self):
        three = cycle(3, (), EF)
        for body in ((), (say("abc"),), (to(0, 0), to(1, 1)), (when(0, (0,), (), ()),), (along(1, 1, "abcabcab", "a" * 8),),
                     (say("c" * 40), say("a")), (say("c" * 40), say("a" * 40)), (say("a"), to(0, 0), say("a")),
                     (when(0, (0,), (say("a"),), (say("a"),)), say("a"))):
            self.assertIs(self.fits(body), True, body)
            self.assertIs(self.fits((when(1, (0,), body, body),)), True, body)
        for states in ((0,), (1, 2), (0, 1, 2)):
            self.assertIs(self.fits((when(0, states, ()),), trees=three), True)
        wrong = (say(""), say("a" * 41), say("d"), say(None), ("say",), ("say", "a", "b"), to(2, 0), to(0, 2), to(-1, 0), to(0, -1), to(True, 0),
                 to(0, False), ("call", 0), ("call", 0, 0, 0), when(2, (0,), ()), when(0, (), ()), when(0, (3,), ()), when(0, (1, 0), ()),
                 when(0, (1, 1), ()), when(0, [0], ()), when(0, 0, ()), when(True, (0,), ()), when(-1, (0,), ()), when(0, (-1, 0), ()), ("if", 0, (0,), ()), ("if", 0, (0,), (), (), ()),
                 when(0, (0,), [], ()), when(0, (0,), (), None), when(0, (True,), ()), along(2, 0), along(0, 2), along(-1, 0), along(0, -1), along(True, 0), along(0, 0, "a" * 9),
                 along(0, 0, "", "a" * 9), along(0, 0, "d"), along(0, 0, None), along(0, 0, "", ("a",)), along(0, 0, name="e"),
                 along(0, 0, name="g"), along(0, 0, name=0), along(0, 0, name=["f"]), ("for", "f", 0, 0, ""), ("for", "f", 0, 0, "", "", ""),
                 ("room", 0, 0), ("use", 0), (), None, 0, "say", ["say", "a"])
        for item in wrong:
            self.assertIs(self.fits((item,), trees=three), False, item)
            self.assertIs(self.fits((when(0, (0,), (), (item,)),), trees=three), False, item)
        for body in ((say("a"), say("b")), (say("a" * 39), say("b")), (to(0, 0), say("a" * 40), say("a"), say("a")), [], None, "", 0, (say("a"), 0)):
            self.assertIs(self.fits(body), False, body)
            self.assertIs(self.fits((when(0, (0,), body),)), False, body)

    def test_ranks(self):
        # A leaf has no child; of s just child 0 is one, and for goes along kinds of rank 2.
        leaf = (((to(0, 0),), ()),)
        self.assertIs(is_template(EVERY, leaf), False)
        self.assertIs(is_template(EVERY, (((say("a"),), ()),)), True)
        self.assertIs(self.fits((to(0, 0), along(0, 0)), kinds=EFS), True)
        self.assertIs(self.fits((to(0, 1),), kinds=EFS), False)
        self.assertIs(self.fits((along(0, 0, name="s"),), kinds=EFS), False)
        self.assertIs(self.fits((along(0, 0, name="s"),), kinds=ES), False)

    def test_bounds(self):
        for many in (0, 1, 8, 9):
            self.assertIs(is_template(EVERY, (((), ()),) * many), 1 <= many <= 8)
        self.assertIs(self.fits((to(0, 0),) * 60), True)
        self.assertIs(self.fits((to(0, 0),) * 61), False)
        self.assertIs(self.fits((when(0, (0,), (to(0, 0),) * 60, (to(0, 0),) * 39),)), True)
        self.assertEqual(items_in(EVERY, with_body((when(0, (0,), (to(0, 0),) * 60, (to(0, 0),) * 39),))), 100)
        self.assertIs(self.fits((when(0, (0,), (to(0, 0),) * 60, (to(0, 0),) * 40),)), False)
        self.assertIs(self.fits((when(0, (0,), (to(0, 0),) * 61),)), False)
        self.assertIs(is_template(EVERY, (((), (to(0, 0),) * 50),) * 2), True)
        self.assertIs(is_template(EVERY, (((), (to(0, 0),) * 50), ((say("a"),), (to(0, 0),) * 50))), False)
        self.assertIs(self.fits(nested(12, (say("a"),))), True)
        self.assertIs(self.fits(nested(12)), True)
        self.assertIs(self.fits(nested(13)), False)
        self.assertIs(self.fits((when(0, (0,), (), nested(12)),)), False)

    def test_endless_many_items(self):
        body = ()
        for _ in range(12):
            body = (when(0, (0,), body, body),) * 60
        self.assertIs(self.within(1, self.fits, body), False)
        for _ in range(500):
            body = (when(0, (0,), body, body),)
        self.assertIs(self.within(1, self.fits, body), False)

    def test_wrong_ones(self):
        template = (((say("a"),), (), (when(1, (0, 2), (to(1, 0),), (say("b"),)), along(0, 0, "a", "b", "p"))), ((), (), ()))
        self.assertIs(is_template(PAIRS, template), True)
        for thing in ODD + tuple(wrong_kinds(template)):
            self.assertIs(is_template(PAIRS, thing), False)
        for thing in ODD:
            self.raises(BadSet, is_template, thing, template)
            self.raises(BadSet, items_in, thing, None)
        for path, thing in wrong_lengths(template):
            # Another number of blocks, of items in a body or of states of an if may be right.
            if len(path) not in (0, 2, 5) and path[3:] not in ((2,), (3,), (4,)):
                self.assertIs(is_template(PAIRS, thing), False, path)
        for function in (items_in, plain, writer_of):
            self.raises(BadTemplate, function, PAIRS, template[0])
            self.raises(BadSet, function, None, template)


class Plain(Case):
    def test_by_hand(self):
        told = plain(PAIRS, LIST)
        self.assertEqual(told[0], ((), (say("a"),), (to(1, 1),)))
        self.assertEqual(told[1], ((say("c"),), (say("c"),), (to(0, 0), to(2, 1))))
        self.assertEqual(told[2], ((), (), (say("b"), to(0, 0), to(2, 1))))

    def test_blocks_stand_once(self):
        def loops(*fors):
            return plain(PAIRS, ((((), (), fors)),))[1:]

        def first(rest, instead=""):
            other = (say(instead),) if instead else ()
            return other, other, (to(0, 0), to(rest, 1))

        def rest(own, between):
            return (), (), (say(between), to(0, 0), to(own, 1))
        # With nothing between and nothing instead a loop is its own rest.
        self.assertEqual(loops(along(0, 0, name="p")), (first(1),))
        self.assertEqual(loops(along(0, 0, "", "a", "p")), (first(2, "a"), first(2)))
        self.assertEqual(loops(along(0, 0, "", "a", "p"), along(1, 0, name="p")), (first(2, "a"), first(2)))
        self.assertEqual(loops(along(0, 0, name="p"), along(1, 0, "", "a", "p")), (first(1), first(1, "a")))
        self.assertEqual(loops(along(0, 0, "a", "b", "p"), along(0, 0, "a", "c", "p"), along(1, 0, "a", "b", "p"), along(0, 0, "a", "", "p")),
                         (first(2, "b"), rest(2, "a"), first(2, "c"), first(2)))

    def test_order(self):
        # By blocks, kinds and items, what an if has in its body ahead of its other.
        inner = (when(0, (0,), (along(0, 0, "a", "", "p"),), (along(0, 0, "b", "", "p"),)), along(0, 0, "c", "", "p"))
        told = plain(PAIRS, (((), (), inner),))
        self.assertEqual(told[0][2], (when(0, (0,), (to(1, 0),), (to(3, 0),)), to(5, 0)))
        self.assertEqual([block[2][0] for block in told[1:]], [to(0, 0), say("a"), to(0, 0), say("b"), to(0, 0), say("c")])
        kinds = (("e", 0), ("f", 2), ("g", 2))
        fors = [(along(0, 0, "", text),) for text in ("a", "b", "c", "aa")]
        told = plain(set_of(kinds, 1, lambda name, states: 0), (((), fors[0], fors[1]), ((), fors[2], fors[3])))
        self.assertEqual([block[0] for block in told[2:]], [(say("a"),), (), (say("b"),), (say("c"),), (say("aa"),)])

    def test_by_words(self):
        choose = chance(2)
        met = set()
        for _ in range(200):
            kinds = random_kinds(choose)
            trees = random_set(choose, kinds, 3)
            template = random_template(choose, trees, choose.randint(1, 3))
            wanted = plain_plain(kinds, template)
            if len(wanted) > 8:
                self.too_many(8, plain, trees, template)
                met.add(8)
            elif IsTemplate().items(wanted) > 100:
                self.too_many(100, plain, trees, template)
            else:
                told = plain(trees, template)
                self.assertEqual(told, wanted)
                self.assertIs(is_template(trees, told), True)
                self.assertEqual(plain(trees, told), told)
                met.add(len(told) > len(template))
                for tree in every_tree(kinds, 6)[:40]:
                    self.assertEqual(plain_filled(trees, told, tree), plain_filled(trees, template, tree))
        self.assertEqual(met, {8, True, False})

    def test_bounds(self):
        def loops(many, items=0, blocks=1):
            fors = tuple(along(0, 0, "", "abc"[:place % 3 + 1] * (place // 3 + 1), "p") for place in range(many))
            first = ((), (), fors + (to(0, 0),) * items)
            return (first,) + (((), (), (to(0, 0),) * 48),) * (blocks - 1)
        self.assertEqual(len(plain(PAIRS, loops(6))), 8)
        self.too_many(8, plain, PAIRS, loops(7))
        # A loop has 2 items for p and 1 for each other kind, its rest 2 for p: 1 + 4 + 2 in all.
        self.assertEqual(items_in(PAIRS, plain(PAIRS, loops(1, 45, 2))), 100)
        self.too_many(100, plain, PAIRS, loops(1, 46, 2))
        self.too_many(8, plain, PAIRS, loops(7, 45, 2))

    def test_example(self):
        choose = chance(5)
        for tree in choose.sample(every_tree(ENP, 9), 60):
            self.assertEqual(plain_filled(PAIRS, plain(PAIRS, LIST), tree), plain_filled(PAIRS, LIST, tree))
        e, n = ("e",), ("n",)
        self.assertEqual(plain_filled(PAIRS, LIST, ("p", e, ("p", n, ("p", n, e)))), "aba")
        self.assertEqual(plain_filled(PAIRS, LIST, ("p", e, e)), "c")
        self.assertEqual(plain_filled(PAIRS, LIST, e), "")
        self.assertEqual(plain_filled(PAIRS, LIST, ("p", e, n)), "c")


class WriterOf(Case):
    def test_by_hand(self):
        told = writer_of(PAIRS, LIST)
        self.assertEqual(told[:3], ("writer", ENP, PAIRS))
        self.assertEqual(told[3][0], (((),), ((say("a"),),), ((call(1, 1),),) * 9))
        self.assertEqual(told[3][2], (((),), ((),), ((say("b"), call(0, 0), call(1, 2)),) * 9))

    def test_ifs_and_pressed(self):
        three = cycle(3, (), EF)
        body = (say("a" * 30), when(0, (1, 2), (say("b" * 20), when(1, (0,), (to(0, 0), say("c")), (say("a"),))), (to(0, 1),)), say("c" * 40))
        told = writer_of(three, with_body(body))[3][0][1]
        self.assertEqual(told[0], (say("a" * 30), call(1, 0), say("c" * 40)))
        self.assertEqual(told[3], (say("a" * 30 + "b" * 10), say("b" * 10), call(0, 0), say("c" * 40), say("c")))
        self.assertEqual(told[4], (say("a" * 30 + "b" * 10), say("b" * 10 + "a" + "c" * 29), say("c" * 11)))

    def test_writes_what_is_filled(self):
        choose = chance(3)
        done = 0
        for _ in range(120):
            kinds = random_kinds(choose)
            trees = random_set(choose, kinds, 3)
            template = random_template(choose, trees, choose.randint(1, 3))
            try:
                writer = writer_of(trees, template)
            except TooMany as error:
                self.assertIn(error.most, (8, 100))
                continue
            done += 1
            self.assertIs(is_writer(writer), True)
            self.assertTrue(all(are_pressed(rule) for own in writer[3] for row in own for rule in row))
            back = as_template(writer) if self.fits_back(writer) else None
            for tree in every_tree(kinds, 5)[:40]:
                text = plain_filled(trees, template, tree)
                self.assertEqual(plain_called(writer, 0, tree), text)
                if back is not None:
                    self.assertEqual(plain_filled(trees, back, tree), text)
        self.assertGreater(done, 60)

    def fits_back(self, writer):
        try:
            as_template(writer)
        except TooMany:
            return False
        return True

    def test_bounds(self):
        def template(many, said):
            inner = (to(0, 0),) * many
            return with_body((when(0, (0,), inner),) + (to(0, 1),) * 30 + said)
        self.assertEqual(len(writer_of(EVERY, template(30, ()))[3][0][1][0]), 60)
        self.too_many(60, writer_of, EVERY, template(31, ()))
        # What is not due counts nothing.
        two = set_of(EF, 2, lambda name, states: 0, ())
        self.assertEqual(len(writer_of(two, with_body((when(0, (0,), (to(0, 0),) * 30, (to(0, 0),) * 30),) + (to(0, 1),) * 30))[3][0][1][3]), 60)
        # Nor do says that are put together.
        says = (say("a"), when(0, (0,), (say("b"),)), say("c"))
        self.assertEqual(len(writer_of(EVERY, with_body(says + (to(0, 0),) * 56 + (when(0, (0,), (to(1, 1),) * 3),), 2))[3][0][1][0]), 60)
        self.too_many(60, writer_of, EVERY, with_body(says + (to(0, 0),) * 56 + (when(0, (0,), (to(1, 1),) * 4),), 2))

    def test_too_many_of_plain_comes_first(self):
        fors = tuple(along(0, 0, "", text, "p") for text in ("a", "b", "c", "aa", "bb", "cc", "aaa"))
        long = (when(0, (0, 1, 2), (to(0, 0),) * 40),) + (to(0, 0),) * 40
        self.too_many(8, writer_of, PAIRS, (((), (), fors + (when(0, (0, 1, 2), (to(0, 0),) * 30),) + (to(0, 0),) * 40),))
        self.too_many(60, writer_of, PAIRS, (((), (), long),))
        self.too_many(100, writer_of, PAIRS, (((), (), (along(0, 0, "a", "b", "p"),) + long), ((), (), (to(0, 0),) * 17)))


class AsTemplate(Case):
    def test_by_words(self):
        choose = chance(4)
        met = set()
        for _ in range(200):
            kinds = random_kinds(choose)
            writer = random_writer(choose, random_set(choose, kinds, 3), choose.randint(1, 3), choose.random() < 0.95, choose.choice((1, 3)))
            if any(rule is None for own in writer[3] for row in own for rule in row):
                self.raises(BadWriter, as_template, writer)
                met.add(None)
                continue
            wanted = tuple(tuple(self.body(writer[2][2], rank, row, ()) for (_, rank), row in zip(kinds, own)) for own in writer[3])
            items = IsTemplate().items(wanted)
            if items > 100:
                self.too_many(100, as_template, writer)
            elif max(self.ifs(body) for block in wanted for body in block) > 12:
                self.too_many(12, as_template, writer)
            else:
                told = as_template(writer)
                self.assertEqual(told, wanted)
                self.assertIs(is_template(writer[2], told), True)
                for tree in every_tree(kinds, 5)[:30]:
                    self.assertEqual(plain_filled(writer[2], told, tree), plain_called(writer, 0, tree))
            met.add(items > 100)
        self.assertEqual(met, {None, True, False})

    def body(self, many, rank, row, states):
        """The body for a kind and the states of its first children, by the words of the document."""
        if len(states) == rank:
            place = list(itertools.product(range(many), repeat=rank)).index(states)
            return self.pieces(row[place])
        return self.of_bodies(len(states), {state: self.body(many, rank, row, states + (state,)) for state in range(many)})

    def of_bodies(self, child, bodies):
        if len(set(bodies.values())) == 1:
            return bodies[min(bodies)]
        least = bodies[min(bodies)]
        states = tuple(state for state in sorted(bodies) if bodies[state] == least)
        rest = {state: body for state, body in bodies.items() if body != least}
        return (when(child, states, least, self.of_bodies(child, rest)),)

    def pieces(self, rule):
        told = []
        for item in rule:
            if item[0] == "call":
                told.append(to(item[2], item[1]))
            elif told and told[-1][0] == "say":
                letters = told.pop()[1] + item[1]
                told.extend(say(letters[begin:begin + 40]) for begin in range(0, len(letters), 40))
            else:
                told.append(item)
        return tuple(told)

    def ifs(self, body):
        return max([1 + max(self.ifs(item[3]), self.ifs(item[4])) for item in body if item[0] == "if"], default=0)

    def test_by_hand(self):
        three = cycle(3, (0,), EF)
        writer = writer_over(three, 1, lambda state, name, states: (say("a"),) if not states else
                             (call(0, 0), call(1, 0)) if states[0] == 1 or sum(states) == 2 else (say("a" * 39), say("bb")))
        other = (say("a" * 39 + "b"), say("b"))
        both = (to(0, 0), to(0, 1))
        self.assertEqual(as_template(writer), (((say("a"),), (
            when(0, (0,), (when(1, (0, 1), other, both),), (when(0, (1,), both, (when(1, (0,), both, other),)),)),)),))

    def test_bounds(self):
        def chain(many, said):
            # All of so many states have unlike texts.
            return writer_over(cycle(many), 1, lambda state, name, states: said(states[0]) if states else ())

        def letters(state):
            return (say("a" * (state + 1)),)
        self.assertEqual(self.ifs(as_template(chain(13, letters))[0][1]), 12)
        self.too_many(12, as_template, chain(14, letters))

        def calls(state):
            return (call(0, 0),) * state
        # 0 + 1 + .. + 12 items and 12 ifs; with one state more 104 items.
        self.assertEqual(items_in(cycle(13), as_template(chain(13, calls))), 90)
        self.too_many(100, as_template, chain(14, calls))

        def just(many):
            return writer_over(one_state(EF), 2, lambda state, name, states: (call(0, 0),) * (50 if state else many) if states else ())
        self.assertEqual(items_in(EVERY, as_template(just(50))), 100)
        self.too_many(100, as_template, just(51))

    def test_far_too_many(self):
        kinds = (("e", 0), ("f", 3))
        # Each tuple of states has a rule of its own.
        trees = set_of(kinds, 15, lambda name, states: (sum(states) + 1) % 15 if states else 0)
        writer = writer_over(trees, 8, lambda state, name, states: tuple(say("abc"[(place + number) % 3]) for number, place in enumerate(states))
                             + (call(0, 0),) * (states[0] if states else 0) if states else (say("a"),))
        self.within(10, self.too_many, 100, as_template, writer)

    def test_errors(self):
        writer = writer_over(one_state(EF), 1, lambda state, name, states: None if states else ())
        self.raises(BadWriter, as_template, writer)
        far = writer_over(cycle(14), 1, lambda state, name, states: (call(0, 0),) * states[0] if states else None)
        self.raises(BadWriter, as_template, far)
        for thing in ODD:
            self.raises(BadWriter, as_template, thing)


class SameTemplates(Case):
    other = (((), (say("a"),), (to(1, 1),)), ((say("c"),), (say("c"),), (to(0, 0), to(2, 1))), ((), (), (say("b"), to(0, 0), to(2, 1))))

    def test_same(self):
        word, paper = same_templates(PAIRS, LIST, self.other, 1, 5)
        self.assertEqual((word, paper[0]), ("same", "paper"))
        self.assertEqual(same_templates(trees=PAIRS, one=self.other, other=LIST, degree=1, size=5)[0], "same")

    def test_parted_in_the_set_alone(self):
        e, n = ("e",), ("n",)
        bent = (LIST[0][:2] + ((along(1, 0, "b", "b", "p"),),),)
        self.assertEqual(same_templates(PAIRS, LIST, bent, 1, 5), ("parted", ("p", e, e)))
        self.assertEqual(same_templates(PAIRS, LIST, bent, 1, 2), ("open",))
        leaves = PAIRS[:4] + ((0, 1),)
        self.assertEqual(same_templates(leaves, LIST, bent, 1, 5), ("open",))
        alone = (((), (), (when(0, (1,), (say("a"),), (when(1, (1,), (say("b"),)),)),)),)
        none = (((), (), ()),)
        self.assertEqual(same_templates(PAIRS, alone, none, 1, 3), ("parted", ("p", e, n)))

    def test_is_as_same_texts(self):
        choose = chance(6)
        words = set()
        for _ in range(60):
            kinds = random_kinds(choose)
            trees = random_set(choose, kinds, 2)
            one, other = [random_template(choose, trees, 1, 1) for _ in range(2)]
            if choose.random() < 0.4:
                other = one
            try:
                wanted = same_texts(as_reader(writer_of(trees, one)), as_reader(writer_of(trees, other)), trees, 1, 3)
            except TooMany as error:
                self.too_many(error.most, same_templates, trees, one, other, 1, 3)
                continue
            self.assertEqual(same_templates(trees, one, other, 1, 3), wanted)
            words.add(wanted[0])
        self.assertLessEqual({"same", "parted"}, words)

    def test_errors_in_order(self):
        fors = tuple(along(0, 0, "", text, "p") for text in ("a", "b", "c", "aa", "bb", "cc", "aaa"))
        many = (((), (), fors),)
        long = (((), (), (when(0, (0, 1, 2), (to(0, 0),) * 40),) + (to(0, 0),) * 40),)
        five = (((), (), ()),) * 5
        self.raises(BadSet, same_templates, None, None, None, 0, 0)
        self.raises(BadTemplate, same_templates, PAIRS, None, many, 0, 0)
        self.raises(BadTemplate, same_templates, PAIRS, many, None, 0, 0)
        self.too_many(8, same_templates, PAIRS, many, long, 1, 1)
        self.too_many(60, same_templates, PAIRS, long, many, 1, 1)
        self.too_many(8, same_templates, PAIRS, LIST, five, 1, 1)
        self.too_many(60, same_templates, PAIRS, five, long, 1, 1)
        self.raises(BadDegree, same_templates, PAIRS, LIST, LIST, 0, 0)
        self.raises(BadSize, same_templates, PAIRS, LIST, LIST, 1, 10)
        # Too many comes last.
        self.raises(BadDegree, same_templates, PAIRS, many, many, 5, 1)
