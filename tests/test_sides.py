import itertools

from helpers import (EF, EFS, ES, ODD, Case, chance, cycle, every_tree, numbers_of, one_state, plain_state,
                     random_kinds, random_numbers, set_of)
from samewriting.errors import BadNumbers, OtherKinds
from samewriting.sides import met


def over(trees):
    """A number reader of the set that tells nothing."""
    return numbers_of(trees, 1, lambda name, states: ((),), lambda state: None)


def tail_and_round(tail, many):
    """Of n times s it has the state n, as long as it is below tail, and goes round with many states then."""
    return set_of(ES, tail + many, lambda name, states: 0 if name == "e" else
                  states[0] + 1 if states[0] + 1 < tail + many else tail)


class Met(Case):
    def test_by_hand(self):
        self.assertEqual(met(over(cycle(2)), over(cycle(3))), ((0, 0), (1, 1), (0, 2), (1, 0), (0, 1), (1, 2)))
        self.assertEqual(met(over(cycle(2)), over(cycle(4))), ((0, 0), (1, 1), (0, 2), (1, 3)))
        self.assertEqual(met(over(one_state(EF)), over(one_state(EF))), ((0, 0),))

    def test_round_by_round(self):
        goals = {("e", ()): 0, ("f", (0, 0)): 4, ("s", (0,)): 2, ("f", (0, 2)): 1, ("f", (0, 4)): 5, ("s", (2,)): 6, ("s", (4,)): 3}
        sevens = set_of(EFS, 7, lambda name, states: goals.get((name, states), 0))
        # Of e come f of two and s of it; only then what is made of these, f ahead of s.
        self.assertEqual([pair[0] for pair in met(over(sevens), over(one_state(EFS)))], [0, 4, 2, 5, 1, 3, 6])

    def test_errors(self):
        good = over(cycle(2))
        for value in ODD + (good[:4], cycle(2)):
            self.raises(BadNumbers, met, value, good)
            self.raises(BadNumbers, met, good, value)
        self.raises(OtherKinds, met, good, over(one_state(EF)))
        self.raises(BadNumbers, met, over(one_state(EF)), None)

    def test_four_hundred_pairs(self):
        self.assertEqual(len(self.within(10, met, over(cycle(16)), over(cycle(25)))), 400)
        self.assertEqual(len(met(over(tail_and_round(1, 19)), over(cycle(21)))), 400)
        self.too_many(400, met, over(tail_and_round(1, 16)), over(cycle(25)))
        self.too_many(400, met, over(cycle(59)), over(cycle(60)))

    def test_twenty_thousand_goals(self):
        # 140 * 140 + 140 + 1 goals are 19741; 141 pairs have 20023.
        def round_of(many):
            return set_of(EFS, many, lambda name, states: (1 + sum(states)) % many if states else 0)
        self.assertEqual(len(self.within(20, met, over(round_of(4)), over(round_of(35)))), 140)
        self.too_many(20000, met, over(round_of(3)), over(round_of(47)))
        # As near to 20000 as can be: 100 pairs with 20001 goals.
        twos = (("e", 0), ("f", 2), ("g", 2))
        self.too_many(20000, met, over(cycle(4, (), twos)), over(cycle(25, (), twos)))
        self.assertEqual(len(met(over(cycle(9, (), twos)), over(cycle(11, (), twos)))), 99)
        # More than 400 pairs count first.
        self.too_many(400, met, over(round_of(20)), over(round_of(21)))
        threes = (("e", 0), ("f", 3), ("s", 1))

        def by_threes(many):
            return set_of(threes, many, lambda name, states: (1 + sum(states)) % many if states else 0)
        self.assertEqual(len(met(over(by_threes(2)), over(by_threes(13)))), 26)
        self.assertEqual(self.within(20, met, over(by_threes(14)), over(by_threes(15))).most, 20000)
        self.too_many(20000, met, over(by_threes(4)), over(by_threes(7)))

    def test_chance(self):
        choose = chance(71)
        for _ in range(80):
            kinds = random_kinds(choose)
            one, other = random_numbers(choose, kinds), random_numbers(choose, kinds)
            told = met(one, other)
            self.assertEqual(len(set(told)), len(told))
            seen = []
            for tree in every_tree(kinds, 4):
                pair = (plain_state(one[1], tree), plain_state(other[1], tree))
                if pair not in seen:
                    seen.append(pair)
            self.assertLessEqual(set(seen), set(told))
            self.assertEqual(list(told), plain_walk(one[1], other[1]))


def plain_walk(one, other):
    """The pairs in the order of a walk, told straight from the words of the document."""
    pairs = []
    while True:
        known = list(pairs)
        for kind, (_, rank) in enumerate(one[1]):
            for states in itertools.product(known, repeat=rank):
                places = [0, 0]
                for first, second in states:
                    places = [places[0] * one[2] + first, places[1] * other[2] + second]
                pair = (one[3][kind][places[0]], other[3][kind][places[1]])
                if pair not in pairs:
                    pairs.append(pair)
        if len(pairs) == len(known):
            return pairs
