"""What is long is told by shortcuts: all answers must be the same without them, and with them everywhere."""

from unittest import mock

from helpers import Case, chance, poly, random_kinds, random_numbers, with_turned_rooms
from samewriting.dividing import divided, is_basis
from samewriting.errors import TooMany
from samewriting.polynomials import put_in
from samewriting.sameness import sameness
from samewriting.sums import is_paper

VARIABLES = ((0, 0), (0, 1), (1, 0), (3, 15))


def polynomial(choose, degree, terms):
    return poly(*[(choose.choice((-3, -1, 1, 2)),) + tuple(choose.choice(VARIABLES) for _ in range(choose.randint(0, degree)))
                  for _ in range(choose.randint(1, terms))])


def told(function, *passed):
    try:
        return function(*passed)
    except TooMany as error:
        return error.most


class Shortcuts(Case):
    def everywhere(self, function, *passed):
        """What is told with all shortcuts taken, as early as can be."""
        with mock.patch("samewriting.putting.EASY", -1), mock.patch("samewriting.papers.EASY", -1), \
                mock.patch("samewriting.sums.EASY", -1), mock.patch("samewriting.reducing._PATIENCE", 0):
            return told(function, *passed)

    def nowhere(self, function, *passed):
        """What is told with no shortcut taken."""
        with mock.patch("samewriting.putting.EASY", 10 ** 9), mock.patch("samewriting.papers.EASY", 10 ** 9), \
                mock.patch("samewriting.sums.EASY", 10 ** 9), mock.patch("samewriting.reducing._PATIENCE", 10 ** 9):
            return told(function, *passed)

    def check(self, function, *passed):
        wanted = self.nowhere(function, *passed)
        self.assertEqual(self.everywhere(function, *passed), wanted)
        self.assertEqual(told(function, *passed), wanted)
        return wanted

    def test_putting_in_and_dividing(self):
        choose = chance(111)
        seen = set()
        for _ in range(200):
            one = polynomial(choose, choose.choice((4, 30)), 4)
            worths = tuple((variable, polynomial(choose, 2, 3)) for variable in VARIABLES[:3])
            answer = self.check(put_in, one, worths)
            seen.add(answer if isinstance(answer, int) else 0)
            several = tuple(other for other in [polynomial(choose, 3, 3) for _ in range(3)] if other)
            self.check(divided, polynomial(choose, 6, 5), several)
            self.check(is_basis, several)
        self.assertEqual(seen, {0, 40, 400})

    def test_readers(self):
        choose = chance(112)
        seen = set()
        for _ in range(120):
            kinds = random_kinds(choose)
            one = random_numbers(choose, kinds, choose.random() < 0.5)
            other = with_turned_rooms(choose, one)
            if sum(one[1][2] ** rank for _, rank in kinds) > 40:
                continue
            answer = self.check(sameness, one, other, 2, 4)
            seen.add(answer[0] if isinstance(answer, tuple) else answer)
            if answer[0] == "same":
                self.assertIs(self.check(is_paper, one, other, answer[1]), True)
        self.assertLessEqual({"same", "open"}, seen)
