from fractions import Fraction
from math import gcd

from helpers import ODD, Case, chance, exchanged, wrong_kinds
from samewriting.errors import BadRow, BadRows, BadWidth
from samewriting.spaces import across, combination, is_combination, is_stairs, space_of

ROWS = ((1, 2, 3), (2, 4, 6), (0, 0, -5))


def product(one, other):
    return sum(x * y for x, y in zip(one, other))


def units(width):
    return tuple(tuple(int(place == spot) for place in range(width)) for spot in range(width))


def plain_stairs(width, rows):
    """The stairs, by fractions."""
    rows = [[Fraction(number) for number in row] for row in rows]
    done = 0
    for place in range(width):
        spots = [spot for spot in range(done, len(rows)) if rows[spot][place]]
        if spots:
            rows[done], rows[spots[0]] = rows[spots[0]], rows[done]
            rows[done] = [number / rows[done][place] for number in rows[done]]
            for spot in range(len(rows)):
                if spot != done:
                    rows[spot] = [x - rows[spot][place] * y for x, y in zip(rows[spot], rows[done])]
            done += 1
    told = []
    for row in rows[:done]:
        below = 1
        for number in row:
            below = below * number.denominator // gcd(below, number.denominator)
        told.append(tuple(int(number * below) for number in row))
    return tuple(told)


class Errors(Case):
    def test_widths(self):
        for width in (0, 61, -1, True, None, "3", 3.0, (3,)):
            self.raises(BadWidth, space_of, width, None)
            self.raises(BadWidth, across, width, None)
            self.raises(BadWidth, is_stairs, width, None)
            self.raises(BadWidth, combination, width, None, None)
            self.raises(BadWidth, is_combination, width, None, None, None)
        for width in (1, 60):
            self.assertEqual(space_of(width, ()), ())
            self.assertEqual(across(width, ()), units(width))

    def test_rows(self):
        wrong = [value for value in ODD if value != ()] + [
            list(ROWS), ROWS[0], ROWS + ((1, 2),), ROWS + ((1, 2, 3, 4),), ROWS + ([1, 2, 3],), ROWS + ((1, 2, True),),
            ROWS + ((1, 2, 3.0),), ROWS + ((1, 2, None),), (ROWS[0],) * 61]
        for rows in wrong:
            self.raises(BadRows, space_of, 3, rows)
            self.raises(BadRows, across, 3, rows)
            self.raises(BadRows, combination, 3, rows, None)
            self.raises(BadRows, is_combination, 3, rows, None, None)
        self.assertEqual(space_of(3, (ROWS[0],) * 60), (ROWS[0],))

    def test_row(self):
        for row in ODD + ((1, 2), (1, 2, 3, 4), [1, 2, 3], (1, 2, True), (1, 2, 3.0), (1, "2", 3)):
            self.raises(BadRow, combination, 3, ROWS, row)
            self.raises(BadRow, is_combination, 3, ROWS, row, None)


class Stairs(Case):
    def test_by_hand(self):
        self.assertEqual(space_of(3, ROWS), ((1, 2, 0), (0, 0, 1)))
        self.assertEqual(across(3, ROWS), ((2, -1, 0),))
        self.assertEqual(space_of(2, ((-2, 4),)), ((1, -2),))
        self.assertEqual(space_of(2, ((6, 4),)), ((3, 2),))
        self.assertEqual(space_of(3, ((2, 0, 1), (0, 3, 1))), ((2, 0, 1), (0, 3, 1)))
        self.assertEqual(space_of(1, ((0,), (-7,))), ((1,),))
        self.assertEqual(space_of(1, ((0,),)), ())

    def test_is_stairs(self):
        for width, rows in ((3, ()), (3, ((1, 2, 0), (0, 0, 1))), (3, ((2, 0, 1), (0, 3, 1))), (1, ((1,),)), (60, units(60))):
            self.assertIs(is_stairs(width, rows), True)
        wrong = [value for value in ODD if value != ()] + [
            [(1, 2, 0)], ([1, 2, 0],), ((1, 2),), ((1, 2, 0, 0),), ((0, 0, 0),), ((-1, 2, 0),), ((2, 4, 0),),
            ((1, 2, 3), (0, 0, 1)), ((0, 0, 1), (1, 2, 0)), ((1, 2, 0), (1, 2, 0)), ((1, 0, 0), (0, 1, 0), (0, 0, 1), (0, 0, 0)),
            ((1, True, 0),), ((1, 2.0, 0),), ((0, 1, 1), (0, 0, 1)), ((1, 0, 0), (0, 0, 1), (0, 1, 0))]
        self.takes_none_of(lambda thing: is_stairs(3, thing), wrong)
        self.takes_none_of(lambda thing: is_stairs(3, thing), wrong_kinds(((1, 2, 0), (0, 0, 1))))
        self.assertIs(is_stairs(2, ((1, 2, 0), (0, 0, 1))), False)

    def test_one_number_exchanged(self):
        rows = ((2, 0, 1), (0, 3, 1))
        for place in range(2):
            for spot in range(3):
                for number in (-2, -1, 0, 1, 2, 3, 4):
                    changed = exchanged(rows, (place, spot), number)
                    right = is_stairs(3, changed)
                    self.assertEqual(right, any(map(any, changed)) and all(map(any, changed)) and
                                     space_of(3, changed) == changed, changed)


class Combinations(Case):
    def test_by_hand(self):
        self.assertEqual(combination(3, (), (0, 0, 0)), ("in", 1, ()))
        told = combination(3, (), (0, 5, 0))
        self.assertEqual(told[0], "out")
        self.assertTrue(told[1][1])
        self.assertEqual(combination(2, ((2, 0),), (3, 0)), ("in", 2, (3,)))
        self.assertEqual(combination(3, ROWS, (0, 0, 0))[0], "in")

    def test_right_and_wrong_ones(self):
        self.assertIs(is_combination(2, ((2, 0),), (3, 0), ("in", 2, (3,))), True)
        self.assertIs(is_combination(2, ((2, 0),), (3, 0), ("in", 4, (6,))), True)
        self.assertIs(is_combination(2, ((2, 0),), (3, 1), ("out", (0, 7))), True)
        self.assertIs(is_combination(2, ((2, 0),), (0, 0), ("in", 1, (0,))), True)
        self.assertIs(is_combination(2, ((0, 0),), (0, 0), ("in", 3, (-5,))), True)
        wrong = [value for value in ODD] + [
            ("in", 2, (2,)), ("in", 0, (0,)), ("in", -2, (-3,)), ("in", 2, (3, 0)), ("in", 2, ()), ("in", 2, [3]),
            ("in", True, (3,)), ("in", 2, (3,), ()), ("in", (3,)), ["in", 2, (3,)], ("out", (0, 0)), ("out", (0, 1)),
            ("out", (1, 0)), ("out",), ("out", [0, 1]), ("out", (0, 1, 0)), ("on", 2, (3,)), ("in", 2, (3.0,)), ("in", 2.0, (3,))]
        self.takes_none_of(lambda thing: is_combination(2, ((2, 0),), (3, 0), thing), wrong)
        out = [("out", (0, 0)), ("out", (1, 1)), ("out", (0, True)), ("out", (0,)), ("out", (0, 1, 0)), ("out", (0, 1), 0),
               ("in", 1, (1,)), ("in", 2, (3,)), ("out", [0, 1]), ("out", (1, 0))]
        self.takes_none_of(lambda thing: is_combination(2, ((2, 0),), (3, 1), thing), out)
        self.takes_none_of(lambda thing: is_combination(2, ((0, 0),), (0, 0), thing), [("in", 0, (0,)), ("out", (1, 1))])

    def test_told_ones_with_one_part_exchanged(self):
        rows = ((2, 1, 0), (0, 3, 1), (1, 1, 1))
        for row in ((1, 2, 3), (5, 0, 0), (2, 4, 1)):
            told = combination(3, rows, row)
            self.assertIs(is_combination(3, rows, row, told), True)
            self.takes_none_of(lambda thing: is_combination(3, rows, row, thing), wrong_kinds(told))
            for spot in range(3):
                for step in (-1, 1):
                    # The rows are apart from one another: no other factors do it.
                    changed = exchanged(told, (2, spot), told[2][spot] + step)
                    self.assertIs(is_combination(3, rows, row, changed), False)
            self.assertIs(is_combination(3, rows, row, exchanged(told, (1,), told[1] + 1)), False)


class Chance(Case):
    def test_all_against_fractions(self):
        choose = chance(31)
        for _ in range(400):
            width = choose.randint(1, 6)
            most = choose.choice((1, 3, 20))
            rows = tuple(tuple(choose.randint(-most, most) for _ in range(width)) for _ in range(choose.randint(0, 7)))
            stairs = space_of(width, rows)
            beside = across(width, rows)
            self.assertEqual(stairs, tuple(row for row in plain_stairs(width, rows)))
            self.assertTrue(is_stairs(width, stairs) and is_stairs(width, beside))
            self.assertEqual(len(stairs) + len(beside), width)
            self.assertEqual(across(width, beside), stairs)
            self.assertFalse(any(product(one, other) for one in rows for other in beside))
            factors = [choose.randint(-3, 3) for _ in rows]
            inside = tuple(product(factors, [row[place] for row in rows]) for place in range(width))
            for row in (inside, tuple(choose.randint(-most, most) for _ in range(width))):
                told = combination(width, rows, row)
                self.assertTrue(is_combination(width, rows, row, told))
                self.assertEqual(told[0] == "in", space_of(width, rows + (row,)) == stairs)

    def test_sixty_rows_within_seconds(self):
        choose = chance(32)
        for many, greatest in ((60, 9), (60, 10 ** 40), (40, 99)):
            rows = tuple(tuple(choose.randint(-greatest, greatest) for _ in range(60)) for _ in range(many))
            row = tuple(choose.randint(-9, 9) for _ in range(60))
            stairs = self.within(30, space_of, 60, rows)
            self.assertEqual(len(stairs), many)
            self.assertEqual(len(self.within(30, across, 60, rows)), 60 - many)
            told = self.within(30, combination, 60, rows, row)
            self.assertEqual(told[0], "in" if many == 60 else "out")
            self.assertTrue(is_combination(60, rows, row, told))
