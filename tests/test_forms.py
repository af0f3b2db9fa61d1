import itertools
from fractions import Fraction
from math import gcd

from evening import plain_forms, plain_rank, plain_vector, random_even, with_sums
from helpers import (E, EF, EFS, ES, FOUR_THREES, ODD, THREE_THREES, Case, at_path, chance, comb, cycle, every_tree, exchanged, nodes_in, numbers_of,
                     one_state, parts_of, plain_state, plain_told, poly, power, random_kinds, random_numbers, set_of, wrong_kinds)
from samewriting.errors import BadNumbers, BadTree, NotEven, TooMany
from samewriting.evens import basis, same_even
from samewriting.forms import form, form_trees, make_up, ranks
from samewriting.numbers import is_numbers
from samewriting.trees import is_tree

X, Y = (0, 0), (0, 1)
S = ("s", E)
# It tells 2 (2 ** n) - 2 of n times s.
HAND = numbers_of(one_state(ES), 2, lambda name, states: (poly((1, X), (2, Y)), poly((2, Y))) if states else ((), poly((1,))), lambda state: poly((1, X)))
ONE_ROOM = numbers_of(one_state(ES), 1, lambda name, states: (poly((2, X), (2,)),) if states else ((),), lambda state: poly((1, X)))


class ByHand(Case):
    def test_example(self):
        self.assertEqual(form_trees(HAND), ((E, S),))
        self.assertEqual(ranks(HAND), (2,))
        self.assertEqual(form(HAND), ("form", ((E, S),), (((((1, 1), (0, 1)),),), ((((0, 1), (1, 1)), ((-2, 1), (3, 1))),)), ((0, 2),)))
        self.assertEqual(make_up(HAND, comb(2)), ((-2, 1), (3, 1)))
        self.assertEqual(make_up(HAND, E), ((1, 1), (0, 1)))
        self.assertEqual(make_up(HAND, S), ((0, 1), (1, 1)))
        self.assertEqual(make_up(numbers=HAND, tree=comb(3)), ((-6, 1), (7, 1)))
        self.assertEqual(form(numbers=ONE_ROOM), form(HAND))
        self.assertEqual(ranks(numbers=ONE_ROOM), (2,))
        self.assertEqual(form_trees(numbers=ONE_ROOM), ((E, S),))

    def test_states_that_no_tree_has(self):
        trees = ("set", ES, 3, ((0,), (0, 2, 1)), ())
        numbers = numbers_of(trees, 1, lambda name, states: (poly((1, X), (1,)),) if states else ((),), lambda state: power(X, 1))
        self.assertEqual(form_trees(numbers), ((E, S), (), ()))
        self.assertEqual(ranks(numbers), (2, 0, 0))
        self.assertEqual(form(numbers), ("form", ((E, S), (), ()), (((((1, 1), (0, 1)),),), ((((0, 1), (1, 1)), ((-1, 1), (2, 1))), (), ())), ((0, 1), None, None)))

    def test_states_without_surroundings(self):
        # No end at all: each tree is made up of the least one.
        numbers = numbers_of(cycle(2), 1, lambda name, states: (poly((1, X), (1,)),) if states else ((),), lambda state: None)
        self.assertEqual(form_trees(numbers), ((E,), (S,)))
        self.assertEqual(form(numbers), ("form", ((E,), (S,)), (((((1, 1),),),), ((((1, 1),),), (((1, 1),),))), (None, None)))
        self.assertEqual(make_up(numbers, comb(7)), ((1, 1),))
        # One state has an end, and is left for ever: what comes behind is of no matter.
        trees = set_of(ES, 3, lambda name, states: min(2, states[0] + 1) if states else 0)
        numbers = numbers_of(trees, 1, lambda name, states: (poly((3, X), (1,)),) if states else (poly((1,)),), lambda state: power(X, 1) if state == 1 else None)
        self.assertEqual(form_trees(numbers), ((E,), (S,), (comb(2),)))
        self.assertEqual(form(numbers)[3], (None, (4,), None))
        self.assertEqual(make_up(numbers, comb(9)), ((1, 1),))

    def test_fractions(self):
        # 1, 3, 4: what comes third is half of both others and more.
        numbers = numbers_of(set_of((("a", 0), ("b", 0), ("c", 0)), 1, lambda name, states: 0), 1, lambda name, states: (poly(({"a": 1, "b": 3, "c": 4}[name],)),), lambda state: power(X, 1))
        self.assertEqual(form_trees(numbers), ((("a",), ("b",)),))
        self.assertEqual(make_up(numbers, ("c",)), ((-1, 2), (3, 2)))
        self.assertEqual(form(numbers)[2][2], ((((-1, 2), (3, 2)),),))
        same = numbers_of(numbers[1], 1, lambda name, states: (poly(({"a": 2, "b": 6, "c": 8}[name],)),), lambda state: power(X, 1))
        self.assertEqual(form(same)[:3], form(numbers)[:3])
        self.assertEqual(form(same)[3], ((2, 6),))


class ByWords(Case):
    def test_form_trees(self):
        choose = chance(1)
        seen = set()
        for _ in range(70):
            kinds = choose.choice((ES, (("a", 0), ("b", 0), ("s", 1)), (("e", 0), ("s", 1), ("t", 1))))
            numbers = random_even(choose, kinds, 2)
            told = form_trees(numbers)
            self.assertEqual(told, plain_forms(numbers, 5, 6))
            seen |= set(ranks(numbers))
            self.check_heart(numbers, told)
        self.assertEqual(seen, {0, 1, 2, 3})

    def test_form_trees_of_two_children(self):
        choose = chance(2)
        done = 0
        for _ in range(60):
            kinds, most = choose.choice(((EF, 7), (EFS, 5)))
            numbers = random_even(choose, kinds, 2, choose.choice((1, 1, 2)))
            told = form_trees(numbers)
            if max([nodes_in(tree) for row in told for tree in row]) <= most:
                self.assertEqual(told, plain_forms(numbers, most, 7))
                self.check_heart(numbers, told)
                done += 1
        self.assertGreater(done, 40)

    def check_heart(self, numbers, told):
        """Form trees are basis trees, their children form trees; each rank is at most one more than the rooms."""
        self.assertEqual(ranks(numbers), tuple(len(row) for row in told))
        for row, wide in zip(told, basis(numbers)):
            self.assertLessEqual(len(row), numbers[2] + 1)
            self.assertTrue(all(tree in wide for tree in row))
        every = [tree for row in told for tree in row]
        self.assertTrue(all(child in every for tree in every for child in tree[1:]))

    def test_make_ups(self):
        choose = chance(3)
        for _ in range(60):
            kinds = random_kinds(choose)
            numbers = random_even(choose, kinds, 3)
            told = form_trees(numbers)
            made = form(numbers)
            self.assertEqual(made[:2], ("form", told))
            shares = {}
            for tree in every_tree(kinds, 6)[:60]:
                state = plain_state(numbers[1], tree)
                pairs = make_up(numbers, tree)
                shares[tree] = [Fraction(number, below) for number, below in pairs]
                self.assertEqual(len(pairs), len(told[state]))
                self.assertTrue(all(below >= 1 and gcd(number, below) == 1 for number, below in pairs))
                self.assertEqual(sum(shares[tree]), 1)
                if tree in told[state]:
                    self.assertEqual(pairs, tuple((int(other == tree), 1) for other in told[state]))
                # What is told is the sum of the ends times the make-up.
                number = plain_told(numbers, tree)
                if number is None:
                    self.assertIs(made[3][state], None)
                else:
                    self.assertEqual(sum(often * end for often, end in zip(shares[tree], made[3][state])), number)
                self.assertEqual(shares[tree], self.by_rows(numbers, made, tree, shares))
            self.check_rows(numbers, made)

    def by_rows(self, numbers, made, tree, shares):
        """The make-up of a tree, reckoned from those of its children by rows alone."""
        trees = numbers[1]
        kind = [name for name, _ in trees[1]].index(tree[0])
        states = tuple(plain_state(trees, child) for child in tree[1:])
        place = list(itertools.product(range(trees[2]), repeat=len(states))).index(states)
        total = None
        ways = itertools.product(*[range(len(made[1][state])) for state in states])
        for way, pairs in zip(ways, made[2][kind][place]):
            often = Fraction(1)
            for child, number in zip(tree[1:], way):
                often *= shares[child][number]
            own = [often * Fraction(number, below) for number, below in pairs]
            total = own if total is None else [one + other for one, other in zip(total, own)]
        return total

    def check_rows(self, numbers, made):
        trees = numbers[1]
        self.assertEqual(len(made[2]), len(trees[1]))
        for (name, rank), row in zip(trees[1], made[2]):
            for states, pairs in zip(itertools.product(range(trees[2]), repeat=rank), row, strict=True):
                kids = list(itertools.product(*[made[1][state] for state in states]))
                self.assertEqual(len(pairs), len(kids))
                for below, own in list(zip(kids, pairs))[:4]:
                    if is_tree(trees[1], (name,) + below):
                        self.assertEqual(make_up(numbers, (name,) + below), own)

    def test_same_readers_have_equal_forms(self):
        choose = chance(4)
        words = {"same": 0, "parted": 0}
        for _ in range(250):
            kinds = choose.choice((ES, EF, (("a", 0), ("b", 0), ("s", 1)), random_kinds(choose)))
            one = random_even(choose, kinds, 2)
            other = with_sums(choose, one)
            if choose.random() < 0.5:
                other = self.bent(choose, other)
            self.assertTrue(is_numbers(other))
            word = same_even(one, other)[0]
            self.assertEqual(form(one) == form(other), word == "same")
            if word == "same":
                self.assertEqual(ranks(one), ranks(other))
                self.assertTrue(all(rank <= numbers[2] + 1 for numbers in (one, other) for rank in ranks(numbers)))
            words[word] += 1
        self.assertGreater(min(words.values()), 50)

    def bent(self, choose, numbers):
        """The reader with another end, or another coefficient."""
        if choose.random() < 0.5:
            state = choose.randrange(numbers[1][2])
            return exchanged(numbers, (4, state), choose.choice((None, poly((1,)), power(X, 1))))
        spots = [path for path in parts_of(numbers) if len(path) == 6 and path[0] == 3 and path[5] == 1 or len(path) == 4 and path[0] == 4 and path[3] == 1] or [None]
        spot = choose.choice([path for path in parts_of(numbers) if path[:1] in ((3,), (4,)) and isinstance(at_path(numbers, path), int) and self.is_coefficient(numbers, path)] or spots)
        return numbers if spot is None else exchanged(numbers, spot, at_path(numbers, spot) + choose.choice((5, 7)))

    def is_coefficient(self, numbers, path):
        term = at_path(numbers, path[:-1])
        return path[-1] == 1 and len(term) == 2 and isinstance(term[0], tuple) and all(isinstance(pair, tuple) and len(pair) == 2 and isinstance(pair[0], tuple) for pair in term[0])

    def test_vectors_made_one(self):
        # What no surroundings tell apart is one: the second room is never asked for.
        choose = chance(5)
        for _ in range(40):
            numbers = random_even(choose, ES, 1, 1)
            wide = ("numbers", numbers[1], 2, tuple(tuple(worths + (poly((1, X), (1,)) if pair[1] else poly((3,)),) for worths in row)
                                                  for pair, row in zip(ES, numbers[3])), numbers[4])
            self.assertEqual(form(wide), form(numbers))
            rows = [plain_vector(wide, tree) for tree in every_tree(ES, 4)]
            self.assertGreaterEqual(plain_rank(rows), ranks(wide)[0])


class Bounds(Case):
    def test_make_ups_beyond_four_thousand(self):
        # States of two form trees each, so many to the power of three children.
        trees = set_of((("e", 0), ("f", 3)), 15, lambda name, states: (sum(states) + 1) % 15 if states else 0)
        many = numbers_of(trees, 1, lambda name, states: (poly((1, (0, 0)), (1, (1, 0)), (2,)),) if states else (poly((1,)),), lambda state: power(X, 1))
        self.assertGreater(sum(ranks(many)), 15)
        self.within(20, self.too_many, 4000, form, many)

    def leaves(self, ranks_of, kinds):
        """A reader whose state k has so many leaves, unlike ones, as form trees; all others are made up of them."""
        names = [(state, number) for state, many in enumerate(ranks_of) for number in range(many)]
        self.assertLessEqual(len(names) + len(kinds), 6)
        leaves = tuple((name, 0) for name in "abcdef"[:len(names)])
        trees = set_of(leaves + kinds, len(ranks_of), lambda name, states: 0 if states else names["abcdef".index(name)][0])
        return numbers_of(trees, 1, lambda name, states: (poly((names["abcdef".index(name)][1],)) if not states else (),), lambda state: power(X, 1))

    def test_just_four_thousand(self):
        # With n form trees in all there are n make-ups for s, n * n for f, n ** 3 for g, and one for each leaf.
        def in_all(many, kinds):
            return sum(many ** rank for _, rank in kinds)
        for kinds in ((("g", 3),), (("g", 3), ("h", 2)), (("g", 2),)):
            two = self.leaves((2, 1), kinds)
            self.assertEqual(ranks(two), (2, 1))
            self.assertEqual(sum(len(pairs) for row in form(two)[2] for pairs in row), 3 + in_all(3, kinds))
        # 15 states of one form tree each, and two of one of them: 3375 + 225 + 15 + 1, and 4096.
        kinds = (("e", 0), ("f", 3), ("g", 2), ("h", 1))
        just = self.chain(kinds, 15, False)
        self.assertEqual(sum(ranks(just)), 15)
        self.assertEqual(sum(len(pairs) for row in form(just)[2] for pairs in row), 3375 + 225 + 15 + 1)
        over = self.chain(kinds, 15, True)
        self.assertEqual(sum(ranks(over)), 16)
        self.too_many(4000, form, over)
        # No number of make-ups is just 4000: 3996, and 4001.
        just = self.chain(THREE_THREES, 11, False)
        self.assertEqual(sum(ranks(just)), 11)
        self.assertEqual(sum(len(pairs) for row in form(just)[2] for pairs in row), 3996)
        over = self.chain(FOUR_THREES, 9, True)
        self.assertEqual(sum(ranks(over)), 10)
        self.too_many(4000, form, over)

    def chain(self, kinds, many, doubled):
        """So many states of one form tree each; if doubled, the last one has two."""
        trees = set_of(kinds, many, lambda name, states: min(many - 1, max(states) + 1) if states else 0)
        return numbers_of(trees, 1, lambda name, states: (poly((len(states) + (sum(states) == 3 * many - 3),)),),
                          lambda state: power(X, 1) if doubled and state == many - 1 else None)

    def test_digits(self):
        # 2 ** n of n times s and more: worths of 2000 digits and of 2001.
        def reader(first):
            return numbers_of(one_state(ES), 1, lambda name, states: (poly((10 ** 40, X)),) if states else (poly((first,)),), lambda state: power(X, 1))
        self.assertEqual(len(str(10 ** 40 * 10 ** (40 * 48) * 9 * 10 ** 39)), 2000)
        self.assertEqual(make_up(reader(9 * 10 ** 39), comb(49))[0][1], 1)
        self.too_many(2000, make_up, reader(9 * 10 ** 39), comb(50))
        self.assertEqual(len(make_up(reader(10 ** 40 - 1), comb(49))), 2)
        self.too_many(2000, make_up, reader(10 ** 40), comb(49))
        self.assertEqual(ranks(reader(10 ** 40)), (2,))

    def test_far_basis_trees(self):
        # A basis tree of more than 60 levels, or of more than 400 nodes.
        far = set_of(ES, 60, lambda name, states: (states[0] + 1) % 60 if states else 0)
        numbers = numbers_of(far, 1, lambda name, states: (poly((1, X), (1,)),) if states else ((),), lambda state: power(X, 1))
        for function in (form_trees, ranks, form):
            self.too_many(60, function, numbers)
        self.too_many(60, make_up, numbers, E)
        kinds = (("e", 0), ("f", 3))
        wide = set_of(kinds, 8, lambda name, states: min(7, min(states) + 1) if states else 0)
        numbers = numbers_of(wide, 1, lambda name, states: ((),), lambda state: None)
        for function in (form_trees, ranks, form):
            self.too_many(400, function, numbers)
        # The size counts ahead of what make_up is asked for.
        self.raises(BadTree, make_up, numbers, ("f", E))

    def test_soon(self):
        # 15 states, rows of three children, and eight rooms.
        choose = chance(6)
        kinds = (("e", 0), ("f", 3))
        trees = set_of(kinds, 15, lambda name, states: (sum(states) + 1) % 15 if states else 0)
        numbers = numbers_of(trees, 2, lambda name, states: (poly((1, (0, 0), (1, 1)), (choose.choice((1, 2)), (2, 0))), poly((1, (1, 0)), (1,))) if states else (poly((1,)), poly((2,))),
                             lambda state: power(X, 1) if state == 3 else None)
        self.assertEqual(len(self.within(30, ranks, numbers)), 15)
        self.within(30, self.too_many, 4000, form, numbers)


class Errors(Case):
    def test_errors(self):
        odd = numbers_of(one_state(ES), 1, lambda name, states: (poly((1, X, X)),) if states else (poly((2,)),), lambda state: power(X, 1))
        bent = numbers_of(one_state(ES), 1, lambda name, states: (poly((1, X)),) if states else (poly((2,)),), lambda state: power(X, 2))
        for function in (form_trees, ranks, form):
            for thing in ODD:
                self.raises(BadNumbers, function, thing)
            for thing in list(wrong_kinds(HAND))[::7]:
                if not isinstance(thing, tuple) or thing[4:] != ((None,),):
                    self.raises(BadNumbers, function, thing)
            self.raises(NotEven, function, odd)
            self.raises(NotEven, function, bent)
        for thing in ODD:
            self.raises(BadNumbers, make_up, thing, None)
            if thing != E:
                self.raises(BadTree, make_up, odd, thing)
        self.raises(NotEven, make_up, odd, E)
        self.raises(NotEven, make_up, odd, comb(59))
        # What is not even is seen ahead of far basis trees.
        far = set_of(ES, 60, lambda name, states: (states[0] + 1) % 60 if states else 0)
        crooked = numbers_of(far, 1, lambda name, states: (poly((1, X, X)),) if states else ((),), lambda state: power(X, 1))
        self.raises(NotEven, form, crooked)
        self.raises(NotEven, make_up, crooked, E)

    def test_not_even_ones(self):
        choose = chance(7)
        for _ in range(60):
            numbers = random_numbers(choose, random_kinds(choose))
            try:
                form_trees(numbers)
            except (NotEven, TooMany) as error:
                self.raises(error.__class__, ranks, numbers)
                self.raises(error.__class__, form, numbers)
