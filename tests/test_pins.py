from evening import random_even, with_sums
from helpers import (E, EF, EFS, ES, ODD, Case, at_path, chance, comb, cycle, every_tree, exchanged, levels_in, nodes_in, numbers_of, one_state, parts_of, plain_state, plain_told,
                     poly, power, random_kinds, random_numbers, set_of, wrong_kinds)
from test_forms import HAND, ONE_ROOM
from samewriting.errors import BadNumbers, NotEven, TooMany
from samewriting.evens import basis, same_even
from samewriting.forms import form_trees, ranks
from samewriting.numbers import is_numbers
from samewriting.pins import pins
from samewriting.trees import is_tree

X, Y = (0, 0), (0, 1)
S = ("s", E)


def coefficients(numbers):
    """The paths to the coefficients of the polynomials of rows and ends."""
    found = []
    for path in parts_of(numbers):
        if path[:1] in ((3,), (4,)) and len(path) == (6 if path[0] == 3 else 4) and path[-1] == 1 and isinstance(at_path(numbers, path), int):
            found.append(path)
    return found


class Pins(Case):
    def check(self, numbers):
        """The pins are ascending trees, with each form tree among them."""
        told = pins(numbers)
        kinds = numbers[1][1]
        self.assertTrue(all(is_tree(kinds, tree) for tree in told))
        self.assertTrue(all(one < other for one, other in zip(told, told[1:])))
        return told

    def pinned(self, numbers, other, told):
        """Whether another reader of the machine has no greater ranks and tells the same of the pins."""
        if any(own > rank for own, rank in zip(ranks(other), ranks(numbers))):
            return None
        return all(plain_told(numbers, tree) == plain_told(other, tree) for tree in told)

    def test_by_hand(self):
        self.assertEqual(self.check(HAND), (E, S, comb(2)))
        self.assertEqual(pins(numbers=ONE_ROOM), (E, S, comb(2)))
        told = pins(HAND)
        # Each reader with one room that tells 0, 2, 6 there is the same.
        for first, often, more in ((0, 2, 2), (0, 3, 2), (1, 2, 2), (0, 1, 2), (0, 2, 1), (2, 0, 6)):
            other = numbers_of(one_state(ES), 1, lambda name, states: (poly((often, X), (more,)),) if states else (poly((first,)),), lambda state: power(X, 1))
            same = self.pinned(HAND, other, told)
            self.assertEqual(same, (first, often, more) == (0, 2, 2))
            self.assertEqual(same_even(HAND, other)[0] == "same", same)
        # With two rooms it need not be: n times s tells n n + n.
        two = numbers_of(one_state(ES), 2, lambda name, states: (poly((1, X), (2, Y)), poly((1, Y), (1,))) if states else ((), poly((1,))), lambda state: power(X, 1))
        self.assertIs(self.pinned(HAND, two, told), None)
        self.assertEqual([plain_told(two, comb(many)) for many in range(4)], [0, 2, 6, 12])
        self.assertEqual(same_even(HAND, two), ("parted", comb(3)))

    def test_states_without_ends(self):
        silent = numbers_of(cycle(2), 1, lambda name, states: (poly((1, X)),) if states else (poly((3,)),), lambda state: None)
        told = self.check(silent)
        self.assertEqual(told, (E, S))
        # A reader that lets one of them by is told apart.
        other = silent[:4] + ((None, power(X, 1)),)
        self.assertIs(self.pinned(silent, other, told), False)
        trees = ("set", ES, 3, ((0,), (0, 2, 1)), ())
        unmet = numbers_of(trees, 1, lambda name, states: (poly((1, X), (1,)),) if states else ((),), lambda state: power(X, 1))
        self.assertEqual(self.check(unmet), (E, S, comb(2)))

    def test_heart(self):
        # Who has no greater ranks and tells the same of the pins is the same: other coefficients, other ends, other rooms.
        choose = chance(1)
        words = {"same": 0, "parted": 0}
        refused = 0
        for _ in range(160):
            kinds = choose.choice((ES, EF, EFS, (("a", 0), ("b", 0), ("s", 1)), random_kinds(choose)))
            numbers = random_even(choose, kinds, 2, 2)
            told = self.check(numbers)
            for row in form_trees(numbers):
                self.assertTrue(all(tree in told for tree in row))
            for other in self.others(choose, numbers):
                same = self.pinned(numbers, other, told)
                if same is None:
                    refused += 1
                else:
                    word = same_even(numbers, other)[0]
                    self.assertEqual(word == "same", same, (numbers, other))
                    words[word] += 1
        self.assertGreater(min(words.values()), 100)
        self.assertGreater(refused, 20)

    def others(self, choose, numbers):
        yield with_sums(choose, numbers)
        spots = coefficients(numbers)
        for spot in choose.sample(spots, min(3, len(spots))):
            yield exchanged(numbers, spot, at_path(numbers, spot) * choose.choice((2, -1)))
        state = choose.randrange(numbers[1][2])
        yield exchanged(numbers, (4, state), choose.choice((None, poly((1,)), power(X, 1))))
        held = [path for path in parts_of(numbers) if len(path) == 4 and path[0] == 3]
        yield exchanged(numbers, choose.choice(held), choose.choice(((), poly((1,)))))

    def test_all_small_readers_of_one_room(self):
        # All readers with one room and small coefficients on one machine: those that tell the same of the pins are the same.
        kinds = (("a", 0), ("b", 0), ("s", 1))
        trees = one_state(kinds)
        some = [numbers_of(trees, 1, lambda name, states: (poly((one,)) if name == "a" else poly((two,)) if name == "b" else poly((often, X), (more,)),), lambda state: power(X, 1))
                for one in (0, 1) for two in (0, 1, 2) for often in (0, 1, 2) for more in (0, 1)]
        for numbers in some[::5]:
            told = self.check(numbers)
            for other in some:
                same = self.pinned(numbers, other, told)
                if same is not None:
                    self.assertEqual(same_even(numbers, other)[0] == "same", same)

    def test_least_readers(self):
        # With all ranks r + 1 each reader of at most r rooms is told apart or the same.
        choose = chance(2)
        done = 0
        for _ in range(200):
            numbers = random_even(choose, ES, 1, 1, 1)
            if ranks(numbers) == (2,):
                done += 1
                told = self.check(numbers)
                for _ in range(10):
                    other = random_even(choose, ES, 1, 1, 1)
                    other = other[:1] + (numbers[1],) + other[2:]
                    self.assertEqual(self.pinned(numbers, other, told), same_even(numbers, other)[0] == "same")
        self.assertGreater(done, 30)


class Bounds(Case):
    def test_never_too_large(self):
        # At most 3 states and 2 rooms, basis trees of at most 8 nodes: neither TooMany(400) nor TooMany(60).
        choose = chance(3)
        done = 0
        for _ in range(300):
            numbers = random_even(choose, choose.choice((ES, EF, EFS, (("e", 0), ("f", 3)), (("a", 0), ("f", 3), ("s", 1)))), 3, 2)
            if max([nodes_in(tree) for row in basis(numbers) for tree in row]) <= 8:
                done += 1
                try:
                    told = pins(numbers)
                except TooMany as error:
                    self.assertEqual(error.most, 4000)
                else:
                    self.assertLessEqual(max(nodes_in(tree) for tree in told), 400)
                    self.assertLessEqual(max(levels_in(tree) for tree in told), 60)
        self.assertGreater(done, 150)

    def test_too_many(self):
        # States of two form trees each, so many to the power of three children.
        trees = set_of((("e", 0), ("f", 3)), 15, lambda name, states: (sum(states) + 1) % 15 if states else 0)
        many = numbers_of(trees, 2, lambda name, states: (poly((1, (0, 0)), (1, (1, 1)), (2,)), poly((1, (2, 0)))) if states else (poly((1,)), ()), lambda state: power(X, 1))
        self.assertGreater(sum(ranks(many)), 40)
        self.within(20, self.too_many, 4000, pins, many)
        # Many surroundings for many trees, of which none alone has too many.
        trees = set_of((("e", 0), ("f", 2), ("g", 2)), 12, lambda name, states: (sum(states) + 1) % 12 if states else 0)
        many = numbers_of(trees, 6, lambda name, states: tuple(poly((1, (0, (room + 1) % 6)), (room + 1, (1, room)), (states[0],)) if states else poly((room,)) for room in range(6)),
                          lambda state: power(X, 1) if state < 3 else None)
        self.within(30, self.too_many, 4000, pins, many)

    def test_no_more_than_are_let(self):
        choose = chance(4)
        for _ in range(40):
            numbers = random_even(choose, random_kinds(choose), 3, 2)
            try:
                self.assertLessEqual(len(pins(numbers)), 4000)
            except TooMany as error:
                self.assertIn(error.most, (4000, 400, 60))

    def test_far_basis_trees(self):
        far = set_of(ES, 60, lambda name, states: (states[0] + 1) % 60 if states else 0)
        numbers = numbers_of(far, 1, lambda name, states: (poly((1, X), (1,)),) if states else ((),), lambda state: power(X, 1))
        self.too_many(60, pins, numbers)
        wide = set_of((("e", 0), ("f", 3)), 8, lambda name, states: min(7, min(states) + 1) if states else 0)
        self.too_many(400, pins, numbers_of(wide, 1, lambda name, states: ((),), lambda state: None))

    def test_deep_surroundings(self):
        # Surroundings of many levels: pins may be too deep, and are told where they are not.
        for many in (10, 28):
            trees = set_of(ES, many, lambda name, states: min(many - 1, states[0] + 1) if states else 0)
            numbers = numbers_of(trees, 1, lambda name, states: (poly((2, X), (1,)),) if states else (poly((1,)),), lambda state: power(X, 1) if state == many - 1 else None)
            told = pins(numbers)
            self.assertLessEqual(max(levels_in(tree) for tree in told), 60)
            bent = exchanged(numbers, (3, 1, many // 2, 0), poly((2, X), (2,)))
            self.assertTrue(any(plain_told(numbers, tree) != plain_told(bent, tree) for tree in told))
        self.assertTrue(all(plain_state(numbers[1], tree) < 28 for tree in told))


class Errors(Case):
    def test_errors(self):
        for thing in ODD:
            self.raises(BadNumbers, pins, thing)
        for thing in list(wrong_kinds(HAND))[::11]:
            if not is_numbers(thing):
                self.raises(BadNumbers, pins, thing)
        odd = numbers_of(one_state(ES), 1, lambda name, states: (poly((1, X, X)),) if states else (poly((2,)),), lambda state: power(X, 1))
        self.raises(NotEven, pins, odd)
        self.raises(NotEven, pins, numbers_of(one_state(ES), 1, lambda name, states: (poly((1, X)),) if states else ((),), lambda state: power(X, 2)))
        far = set_of(ES, 60, lambda name, states: (states[0] + 1) % 60 if states else 0)
        self.raises(NotEven, pins, numbers_of(far, 1, lambda name, states: (poly((1, X, X)),) if states else ((),), lambda state: power(X, 1)))
        choose = chance(5)
        for _ in range(40):
            numbers = random_numbers(choose, random_kinds(choose))
            try:
                ranks(numbers)
            except NotEven:
                self.raises(NotEven, pins, numbers)
        self.assertGreater(len(every_tree(ES, 3)), 2)
