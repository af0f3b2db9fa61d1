from helpers import (EF, ES, ODD, PRIME, Case, at_path, chance, cycle, exchanged, numbers_of, one_state, parts_of,
                     poly, power, random_kinds, random_numbers, with_turned_rooms, wrong_kinds, wrong_lengths)
from papers import multiplies_out
from samewriting.errors import BadNumbers, OtherKinds, TooMany
from samewriting.dividing import divided
from samewriting.evens import same_even
from samewriting.polynomials import is_polynomial, put_in
from samewriting.sameness import sameness
from samewriting.sides import met
from samewriting.sums import is_paper

X, Y, Z = (0, 0), (0, 1), (0, 2)
T = one_state(ES)
ONE = numbers_of(T, 1, lambda name, states: (poly((1,)),) if name == "e" else (poly((2, X)),), lambda state: poly((1, X)))
OTHER = numbers_of(T, 2, lambda name, states: ((), poly((1,))) if name == "e" else (poly((1, X), (1,)), poly((2, Y))),
                   lambda state: poly((1, Y)))
PAPER = ("paper", ((poly((1, X), (-1, Z)),),), ((((1, ()),),), (((1, ((0, 0, poly((2,))),)),),)), ((1, ((0, 0, poly((1,))),)),))


def power_reader(many):
    """Tells 1, and of each further s the power of it."""
    return numbers_of(T, 1, lambda name, states: (poly((1,)),) if name == "e" else (power(X, many),), lambda state: poly((1, X)))


class IsPaper(Case):
    def test_by_hand(self):
        self.assertIs(is_paper(ONE, OTHER, PAPER), True)
        self.assertEqual(same_even(ONE, OTHER), ("same", PAPER))

    def test_other_right_ones(self):
        # Twice as much everywhere, an equation more, factors in rooms of nobody that go away.
        more = ("paper", ((poly((2, X), (-2, Z)), ()),), ((((3, ()), (5, ())),), (((2, ((0, 0, poly((4,))),)), (1, ())),)),
                ((4, ((0, 0, poly((2,))),)),))
        self.assertIs(is_paper(ONE, OTHER, more), True)
        equations = ((poly((1, X), (-1, Z)), poly((1, X), (-1, Z))),)
        odd = (3, 15)
        turned = ((1, ((0, 0, poly((2,), (1, odd))), (0, 1, poly((-1, odd))))), (1, ((0, 1, poly((2,))),)))
        self.assertIs(is_paper(ONE, OTHER, ("paper", equations, ((((1, ()), (1, ())),), (turned,)), PAPER[3])), True)

    def test_wrong_ones(self):
        wrong = [value for value in ODD] + [
            list(PAPER), PAPER[:3], PAPER + ((),), ("papers",) + PAPER[1:],
            exchanged(PAPER, (1,), ()), exchanged(PAPER, (1,), PAPER[1] * 2), exchanged(PAPER, (1, 0), ()),
            exchanged(PAPER, (1, 0, 0), poly((1, X), (-1, (0, 3)))), exchanged(PAPER, (1, 0, 0), poly((1, X), (-1, (1, 2)))),
            exchanged(PAPER, (1, 0, 0), poly((1, X), (-1, Y))), exchanged(PAPER, (1, 0, 0), poly((1, X), (1, Z))),
            exchanged(PAPER, (2,), ()), exchanged(PAPER, (2, 0), ()), exchanged(PAPER, (2, 0, 0), ()),
            exchanged(PAPER, (2, 1, 0, 0), (0, ())), exchanged(PAPER, (2, 1, 0, 0), (1, ())),
            exchanged(PAPER, (2, 0, 0, 0), (0, ())), exchanged(PAPER, (2, 0, 0, 0), (-1, ())),
            exchanged(PAPER, (2, 1, 0, 0), (1, ((0, 1, poly((2,))),))), exchanged(PAPER, (2, 1, 0, 0), (1, ((1, 0, poly((2,))),))),
            exchanged(PAPER, (2, 1, 0, 0), (1, ((0, 0, poly((1,))), (0, 0, poly((1,)))))),
            exchanged(PAPER, (2, 1, 0, 0), (1, ((0, 0, poly((-1,))), (0, 0, poly((3,)))))),
            exchanged(PAPER, (2, 1, 0, 0), (1, ((0, 0, ()), (0, 0, poly((2,)))))), exchanged(PAPER, (2, 1, 0, 0), (2, PAPER[2][1][0][0][1])),
            exchanged(PAPER, (2, 0, 0, 0), (1, ((0, 0, poly((2,))),))), exchanged(PAPER, (2, 0, 0, 0), (1, ((0, 0, ()),))),
            exchanged(PAPER, (3,), ()), exchanged(PAPER, (3,), (None,)), exchanged(PAPER, (3, 0), (1, ())),
            exchanged(PAPER, (3, 0, 1, 0, 0), 1), exchanged(PAPER, (3,), PAPER[3] * 2)]
        self.takes_none_of(lambda thing: is_paper(ONE, OTHER, thing), wrong)
        self.takes_none_of(lambda thing: is_paper(ONE, OTHER, thing), wrong_kinds(PAPER))

    def test_equations_in_rooms_of_nobody(self):
        # Both equations multiply out with any variable beside the first one.
        for variable, right in ((Z, True), ((0, 3), False), ((1, 0), False), ((0, 15), False)):
            more = poly((1, X, variable), (-1, Z, variable))
            often = 4 if variable == Z else 2
            sums = ((1, ((0, 0, poly((2,))),)), (1, ((0, 1, poly((often,))),)))
            paper = ("paper", ((PAPER[1][0][0], more),), ((((1, ()), (1, ())),), (sums,)), PAPER[3])
            self.assertIs(is_paper(ONE, OTHER, paper), right, variable)

    def test_one_part_left_out_doubled_or_exchanged(self):
        for path, changed in wrong_lengths(PAPER):
            self.assertIs(is_paper(ONE, OTHER, changed), False, changed)
        right = 0
        for path in parts_of(PAPER):
            number = at_path(PAPER, path)
            if isinstance(number, int):
                for step in (-2, -1, 1, 2):
                    changed = exchanged(PAPER, path, number + step)
                    # At e the difference is 0: any number from 1 on times it is 0.
                    free = path == (2, 0, 0, 0, 0) and number + step > 0
                    self.assertIs(is_paper(ONE, OTHER, changed), free, changed)
                    right += free
        self.assertEqual(right, 2)

    def test_ends(self):
        def with_ends(first, second):
            return exchanged(ONE, (4,), (first,)), exchanged(OTHER, (4,), (second,))
        none = with_ends(None, None)
        self.assertIs(is_paper(*none, PAPER), False)
        self.assertIs(is_paper(*none, exchanged(PAPER, (3, 0), None)), True)
        self.assertIs(is_paper(ONE, OTHER, exchanged(PAPER, (3, 0), None)), False)
        for lone in (with_ends(None, ()), with_ends(poly((1, X)), None)):
            for end in (None, (1, ()), (1, ((0, 0, poly((1,))),))):
                self.assertIs(is_paper(*lone, exchanged(PAPER, (3, 0), end)), False)
        self.assertIs(is_paper(*with_ends((), ()), exchanged(PAPER, (3, 0), (7, ()))), True)

    def test_errors(self):
        for value in ODD + (ONE[:4], T):
            self.raises(BadNumbers, is_paper, value, OTHER, PAPER)
            self.raises(BadNumbers, is_paper, ONE, value, PAPER)
        twos = numbers_of(one_state(EF), 1, lambda name, states: ((),), lambda state: None)
        self.raises(OtherKinds, is_paper, ONE, twos, None)

        def over(trees):
            return numbers_of(trees, 1, lambda name, states: ((),), lambda state: None)
        self.assertIs(is_paper(over(cycle(16)), over(cycle(25)), None), False)
        self.too_many(400, is_paper, over(cycle(17)), over(cycle(25)), None)
        kinds = (("e", 0), ("f", 2), ("s", 1))
        self.too_many(20000, is_paper, over(cycle(3, (), kinds)), over(cycle(47, (), kinds)), None)

    def test_degrees(self):
        ones = power_reader(1)
        for many, right in ((1, True), (39, True), (40, True), (41, False)):
            equation = poly((1,) + (X,) * many, (-1,) + (Y,) * many)
            # The ends differ by nothing but the equation of the degree 1.
            equations = ((equation, poly((1, X), (-1, Y))),)
            paper = ("paper", equations, ((((1, ()), (1, ())),), (((1, ((0, 0, poly((1,))),)), (1, ((0, 1, poly((1,))),))),)),
                     ((1, ((0, 1, poly((1,))),)),))
            self.assertIs(is_paper(ones, ones, paper), right)
        # Sums of any degree: an equation of the degree 40 put into a row of the degree 2.
        equation = poly((1,) + (X,) * 40, (-1,) + (Y,) * 40)
        plain = poly((1, X), (-1, Y))
        factor = poly((1,) + (X,) * 40, (1,) + (Y,) * 40)
        paper = ("paper", ((equation, plain),), ((((1, ()), (1, ())),), (((1, ((0, 0, factor),)),
                 (1, ((0, 1, poly((1, X), (1, Y))),))),)), ((1, ((0, 1, poly((1,))),)),))
        self.assertIs(is_paper(power_reader(2), power_reader(2), paper), True)
        self.assertIs(self.within(20, is_paper, power_reader(40), power_reader(40), paper), False)

    def test_long_sums(self):
        # (x + 1) ** 27 - (y + 1) ** 27 is x - y times a factor of 378 terms.
        step = numbers_of(T, 1, lambda name, states: (poly((1,)) if name == "e" else poly((1, X), (1,)),), lambda state: poly((1, X)))
        equation = poly((1,) + (X,) * 27, (-1,) + (Y,) * 27)
        plain = poly((1, X), (-1, Y))
        above = put_in(equation, ((X, poly((1, X), (1,))), (Y, poly((1, Y), (1,)))))
        told = divided(above, (plain,))
        self.assertEqual((told[0], len(told[1][0]), told[2]), (1, 378, ()))

        def paper_with(factor):
            return ("paper", ((plain, equation),), ((((1, ()), (1, ())),), (((1, ((0, 0, poly((1,))),)), (1, ((0, 0, factor),))),)),
                    ((1, ((0, 0, poly((1,))),)),))
        factor = told[1][0]
        self.assertIs(is_paper(step, step, paper_with(factor)), True)
        for often in (1, -1, PRIME, -PRIME):
            self.assertIs(is_paper(step, step, paper_with(exchanged(factor, (100, 1), factor[100][1] + often))), False)

    def test_far_too_long_sums_are_refused_within_seconds(self):
        choose = chance(2)
        terms = {tuple(sorted((choose.randrange(2), choose.randrange(8)) for _ in range(20))): 1 for _ in range(399)}
        long = poly((1, X), *[(number,) + powers for powers, number in terms.items()])
        reader = numbers_of(one_state(EF), 8, lambda name, states: (poly((1,)),) * 8 if name == "e" else (long,) * 8,
                            lambda state: poly((1, X)))
        equations = ((poly((1,) + (X,) * 40, (-1,) + ((0, 8),) * 40, (1, X, Y), (-1, X, Z)), poly((1, X), (-1, (0, 8)))),)
        paper = ("paper", equations, ((((1, ()), (1, ())),), (((1, ()), (1, ())),)), ((1, ((0, 1, poly((1,))),)),))
        self.assertIs(self.within(20, is_paper, reader, reader, paper), False)


class Chance(Case):
    def test_told_papers_and_what_becomes_of_them(self):
        choose = chance(81)
        papers = 0
        for _ in range(150):
            kinds = random_kinds(choose)
            even = choose.random() < 0.5
            one = random_numbers(choose, kinds, even)
            if sum(one[1][2] ** rank for _, rank in kinds) > 60:
                continue
            other = with_turned_rooms(choose, one)
            try:
                told = same_even(one, other) if even else sameness(one, other, 1, 4)
            except TooMany:
                continue
            if told[0] != "same":
                continue
            papers += 1
            pairs = met(one, other)
            self.assertIs(is_paper(one, other, told[1]), True)
            self.assertTrue(multiplies_out(one, other, pairs, told[1]))
            self.check_changes(choose, one, other, pairs, told[1])
        self.assertGreater(papers, 60)

    def check_changes(self, choose, one, other, pairs, paper):
        paths = [path for path in parts_of(paper) if isinstance(at_path(paper, path), int)]
        for path in choose.sample(paths, min(12, len(paths))):
            changed = exchanged(paper, path, at_path(paper, path) + choose.choice((-1, 1)))
            right = right_equations(changed, one[2] + other[2]) and right_factors(changed) and \
                multiplies_out(one, other, pairs, changed)
            self.assertIs(is_paper(one, other, changed), right, changed)
        for _, changed in choose.sample(list(wrong_lengths(paper)), 6):
            self.assertIn(is_paper(one, other, changed), (True, False))


def right_equations(paper, rooms):
    return all(is_polynomial(equation) and all(child == 0 and room < rooms for powers, _ in equation for (child, room), _ in powers)
               for equations in paper[1] for equation in equations)


def right_factors(paper):
    sums = [one_sum for row in paper[2] for goal in row for one_sum in goal] + [end for end in paper[3] if end is not None]
    return all(is_polynomial(part[2]) for one_sum in sums for part in one_sum[1])
