from helpers import ODD, Case, chance, exchanged, wrong_kinds, wrong_lengths
from machining import (all_texts, length_by, plain_row, plain_scribed, plain_takes, random_scribe, random_words, texts_to, up_to)
from samewriting.errors import BadScribe, BadText, BadWords, TooMany
from samewriting.scribes import is_scribe, one_behind, pulled, scribed
from samewriting.wordmachines import effect, is_words, just, least_words, row_behind, takes_text, words_both, words_not

EVEN = ("words", ((1, 1, 1), (0, 0, 0)), (0,))
DOUBLE = ("scribe", (((0, "ab"), (0, "b"), (0, "c")),), ("",))
NO_TEXTS = ("d", "A", "ab ", "a\n", None, 0, True, b"a", ("a",), ["a"])


class IsWords(Case):
    def test_right_ones(self):
        for words in (EVEN, all_texts(), ("words", ((0, 0, 0),), ()), ("words", ((1, 0, 1), (0, 1, 0)), (0, 1))):
            self.assertIs(is_words(words), True)

    def test_bounds(self):
        for many in (1, 8, 9):
            self.assertIs(is_words(length_by(many, (0,))), many <= 8)
        self.assertIs(is_words(("words", (), ())), False)
        for row in ((0, 0, 2), (0, -1, 0), (0, 0), (0, 0, 0, 0), (0, True, 0), [0, 0, 0], (0, "0", 0), None, 0):
            self.assertIs(is_words(("words", ((0, 0, 0), row), ())), False)
        for takes in ((2,), (-1,), (1, 0), (0, 0), [0], (True,), None, 0, (None,)):
            self.assertIs(is_words(exchanged(EVEN, (2,), takes)), False)

    def test_wrong_ones(self):
        self.takes_none_of(is_words, ODD)
        self.takes_none_of(is_words, wrong_kinds(EVEN))
        for path, thing in wrong_lengths(EVEN):
            # Another row, or none of takes, may be right.
            if path not in ((1,), (2,)) or path == (2,) and thing[2] != ():
                self.assertIs(is_words(thing), False, path)

    def test_all_functions_raise(self):
        for thing in ODD + tuple(wrong_kinds(EVEN)):
            self.raises(BadWords, row_behind, thing, None)
            self.raises(BadWords, takes_text, thing, None)
            self.raises(BadWords, effect, thing, None)
            self.raises(BadWords, least_words, thing)
            self.raises(BadWords, words_not, thing)
            self.raises(BadWords, words_both, thing, None)
            self.raises(BadWords, words_both, thing, EVEN)
            self.raises(BadWords, words_both, EVEN, thing)
            self.raises(BadWords, pulled, DOUBLE, thing)
        for text in NO_TEXTS:
            for function in (row_behind, takes_text, effect):
                self.assertIs(self.raises(BadText, function, EVEN, text).at, None)
            self.raises(BadText, just, text)
            self.raises(BadText, scribed, DOUBLE, text)


class Reading(Case):
    def test_by_words(self):
        choose = chance(1)
        for _ in range(40):
            words = random_words(choose, choose.randint(1, 8))
            for text in choose.sample(texts_to(5), 30):
                self.assertEqual(row_behind(words, text), plain_row(words[1], 0, text))
                self.assertIs(takes_text(words, text), plain_takes(words, text))
                self.assertEqual(effect(words, text), tuple(plain_row(words[1], row, text) for row in range(len(words[1]))))

    def test_long_texts(self):
        self.assertIs(takes_text(EVEN, "abc" * 20000), True)
        self.assertIs(takes_text(words=EVEN, text="abc" * 20001), False)
        self.assertEqual(effect(words=EVEN, text=""), (0, 1))
        self.assertEqual(row_behind(words=EVEN, text="c"), 1)


class Least(Case):
    def takes_as(self, words, rule, most=6):
        for text in texts_to(most):
            self.assertIs(plain_takes(words, text), rule(text))

    def check_least(self, words):
        """No two rows take the same, and rows are numbered as a walk meets them."""
        self.assertIs(is_words(words), True)
        rows = words[1]
        signs = [tuple(plain_row(rows, row, text) in words[2] for text in texts_to(6)) for row in range(len(rows))]
        self.assertEqual(len(set(signs)), len(rows))
        met = [0]
        for row in met:
            met.extend(goal for place, goal in enumerate(rows[row]) if goal not in met and goal not in rows[row][:place])
        self.assertEqual(met, list(range(len(rows))))

    def test_by_hand(self):
        self.assertEqual(least_words(("words", ((2, 2, 2), (1, 1, 1), (0, 0, 0)), (0, 1))), EVEN)
        self.assertEqual(least_words(length_by(6, (0, 2, 4))), EVEN)
        self.assertEqual(words_not(EVEN), ("words", ((1, 1, 1), (0, 0, 0)), (1,)))
        self.assertEqual(words_not(all_texts()), ("words", ((0, 0, 0),), ()))
        self.assertEqual(words_not(length_by(8, (0, 2, 5))), length_by(8, (1, 3, 4, 6, 7)))
        self.assertEqual(just(""), ("words", ((1, 1, 1), (1, 1, 1)), (0,)))
        self.assertEqual(just("b"), ("words", ((1, 2, 1), (1, 1, 1), (1, 1, 1)), (2,)))
        # The walk goes row by row, a ahead of b ahead of c.
        self.assertEqual(least_words(("words", ((3, 1, 2), (1, 1, 1), (2, 2, 3), (0, 0, 0)), (1, 2))),
                         ("words", ((1, 2, 3), (0, 0, 0), (2, 2, 2), (3, 3, 1)), (2, 3)))

    def test_random_ones(self):
        choose = chance(2)
        for _ in range(60):
            one, other = [random_words(choose, choose.randint(1, 4)) for _ in range(2)]
            self.check_least(least_words(one))
            self.takes_as(least_words(one), lambda text: plain_takes(one, text))
            self.check_least(words_not(one))
            self.takes_as(words_not(one), lambda text: not plain_takes(one, text))
            self.assertEqual(words_not(words_not(one)), least_words(one))
            try:
                both = words_both(one, other)
            except TooMany as error:
                self.assertEqual(error.most, 8)
                continue
            self.check_least(both)
            self.takes_as(both, lambda text: plain_takes(one, text) and plain_takes(other, text))
            self.assertEqual(words_both(other, one), both)

    def test_same_texts_have_equal_ones(self):
        choose = chance(3)
        for _ in range(60):
            words = random_words(choose, choose.randint(1, 4))
            # Rows twice, and in another sequence behind the first one.
            many = len(words[1])
            order = [0] + choose.sample(range(1, 2 * many), 2 * many - 1)
            place = {row: number for number, row in enumerate(order)}
            rows = [tuple(place[goal + choose.choice((0, many))] if goal or choose.random() < 0.5 else place[goal] for goal in words[1][row % many])
                    for row in order]
            takes = sorted(place[row] for row in range(2 * many) if row % many in words[2])
            self.assertEqual(least_words(("words", tuple(rows), tuple(takes))), least_words(words))

    def test_bounds(self):
        self.assertEqual(len(words_both(length_by(2, (0,)), length_by(4, (2,)))[1]), 4)
        self.assertEqual(len(words_both(up_to(6), all_texts())[1]), 8)
        self.assertEqual(len(words_both(length_by(8, (0,)), length_by(4, (0,)))[1]), 8)
        self.too_many(8, words_both, length_by(3, (0,)), length_by(5, (1,)))
        self.assertEqual(len(words_both(length_by(7, (0,)), length_by(8, ()))[1]), 1)
        self.too_many(8, words_both, length_by(7, (0,)), length_by(8, (0,)))
        self.assertEqual(len(just("abcabc")[1]), 8)
        self.takes_as(just("cab"), lambda text: text == "cab")
        self.takes_as(just("aaaaaa"), lambda text: text == "aaaaaa")
        self.too_many(8, just, "aaaaaaa")
        self.too_many(8, just, "abc" * 1000)
        self.check_least(just("abcabc"))
        self.assertEqual(just(text="a"), just("a"))
        self.assertEqual(words_both(one=EVEN, other=EVEN), EVEN)


class IsScribe(Case):
    def test_right_ones(self):
        choose = chance(4)
        for _ in range(20):
            self.assertIs(is_scribe(random_scribe(choose, choose.randint(1, 4))), True)
        self.assertIs(is_scribe(DOUBLE), True)

    def test_bounds(self):
        def with_rows(many):
            return ("scribe", (((0, ""), (0, ""), (0, "")),) * many, (None,) * many)
        for many in (0, 1, 4, 5):
            self.assertIs(is_scribe(with_rows(many)), 1 <= many <= 4)
        for letters in ("", "c", "abcabcab", "abcabcabc", "d", None, 0, ("a",), b"a"):
            right = isinstance(letters, str) and len(letters) < 9 and letters != "d"
            self.assertIs(is_scribe(exchanged(DOUBLE, (1, 0, 1, 1), letters)), right)
            self.assertIs(is_scribe(exchanged(DOUBLE, (2, 0), letters)), right or letters is None)
        for goal in (1, -1, False, None, "0"):
            self.assertIs(is_scribe(exchanged(DOUBLE, (1, 0, 1, 0), goal)), False)
        # Each row and each end counts.
        for place in range(4):
            self.assertIs(is_scribe(exchanged(with_rows(4), (1, place, 2), (3, "a" * 8))), True)
            self.assertIs(is_scribe(exchanged(with_rows(4), (1, place, 2), (4, ""))), False)
            self.assertIs(is_scribe(exchanged(with_rows(4), (1, place, 2), (0, "a" * 9))), False)
            self.assertIs(is_scribe(exchanged(with_rows(4), (2, place), "a" * 8)), True)
            self.assertIs(is_scribe(exchanged(with_rows(4), (2, place), "a" * 9)), False)

    def test_wrong_ones(self):
        self.takes_none_of(is_scribe, ODD)
        for thing in wrong_kinds(DOUBLE):
            self.assertIs(is_scribe(thing), thing == exchanged(DOUBLE, (2, 0), None))
        for path, thing in wrong_lengths(DOUBLE):
            self.assertIs(is_scribe(thing), False, path)
        for thing in ODD:
            self.raises(BadScribe, scribed, thing, None)
            self.raises(BadScribe, one_behind, thing, None)
            self.raises(BadScribe, one_behind, thing, DOUBLE)
            self.raises(BadScribe, one_behind, DOUBLE, thing)
            self.raises(BadScribe, pulled, thing, None)


class Scribed(Case):
    def test_by_hand(self):
        self.assertEqual(scribed(DOUBLE, "aa"), "abab")
        self.assertEqual(scribed(DOUBLE, ""), "")
        self.assertIs(scribed(exchanged(DOUBLE, (2, 0), None), ""), None)
        self.assertEqual(scribed(scribe=DOUBLE, text="a" * 50000), "ab" * 50000)

    def test_by_words(self):
        choose = chance(5)
        for _ in range(40):
            scribe = random_scribe(choose, choose.randint(1, 4))
            for text in choose.sample(texts_to(5), 30):
                self.assertEqual(scribed(scribe, text), plain_scribed(scribe, text))


class OneBehind(Case):
    def test_by_words(self):
        choose = chance(6)
        met = set()
        for _ in range(150):
            one, other = random_scribe(choose, choose.randint(1, 2)), random_scribe(choose, choose.randint(1, 2))
            try:
                told = one_behind(one, other)
            except TooMany as error:
                met.add(error.most)
                continue
            self.assertIs(is_scribe(told), True)
            for text in texts_to(4):
                first = plain_scribed(one, text)
                self.assertEqual(plain_scribed(told, text), None if first is None else plain_scribed(other, first))
        self.assertEqual(met, {8})

    def test_numbers_and_ends(self):
        one = ("scribe", (((1, "a"), (0, ""), (0, "b")), ((1, "c"), (1, "a"), (0, ""))), ("ca", None))
        other = ("scribe", (((1, "b"), (1, "a"), (0, "c")), ((0, "aa"), (1, ""), (1, "bb"))), ("b", "c"))
        # (0, 0), then (1, 1) by a; (0, 1) by b; from (1, 1) (1, 1), (1, 0), (0, 1).
        self.assertEqual(one_behind(one, other), ("scribe", (
            ((1, "b"), (0, ""), (2, "a")), ((1, "bb"), (3, "aa"), (2, "")), ((3, "aa"), (2, ""), (2, "")), ((3, "c"), (1, "b"), (0, ""))),
            ("cb" + "c", None, "bbaa" + "b", None)))

    def test_ends_that_are_none(self):
        none = exchanged(DOUBLE, (2, 0), None)
        self.assertEqual(one_behind(DOUBLE, none)[2], (None,))
        self.assertEqual(one_behind(none, DOUBLE)[2], (None,))
        # The end is read from the row where the other one is.
        refusing = ("scribe", (((1, "a"), (0, ""), (0, "")), ((1, "b"), (1, ""), (0, "c"))), (None, "c"))
        ending = exchanged(DOUBLE, (2, 0), "a")
        self.assertEqual(one_behind(ending, refusing)[2], ("a" + "c", "b" + "c"))

    def test_bounds(self):
        def round_of(many, letters="a"):
            return ("scribe", tuple((((row + 1) % many, letters),) * 3 for row in range(many)), ("",) * many)
        self.assertEqual(len(one_behind(round_of(4), round_of(2))[1]), 4)
        self.too_many(4, one_behind, round_of(3), round_of(2))
        self.too_many(4, one_behind, round_of(3, "a" * 7), round_of(2, "a" * 8))
        self.assertEqual(one_behind(round_of(1, "aaaa"), round_of(1, "bc"))[1][0][0], (0, "bcbcbcbc"))
        self.too_many(8, one_behind, round_of(1, "aaa"), round_of(1, "bca"))
        # Also where an end is told: what comes of the one's end, and the own one behind it.
        self.assertEqual(one_behind(exchanged(DOUBLE, (2, 0), "aaa"), exchanged(DOUBLE, (2, 0), "cc"))[2], ("abababcc",))
        self.too_many(8, one_behind, exchanged(DOUBLE, (2, 0), "aaa"), exchanged(DOUBLE, (2, 0), "ccc"))
        # What nothing comes to does not count.
        idle = ("scribe", (((0, ""),) * 3, ((1, "a" * 8),) * 3), ("", "a" * 8))
        self.assertEqual(one_behind(idle, round_of(1, "bb")), ("scribe", (((0, ""),) * 3,), ("",)))
        self.assertEqual(one_behind(one=DOUBLE, other=DOUBLE)[1][0][0], (0, "abb"))


class Pulled(Case):
    def test_by_words(self):
        choose = chance(7)
        met = set()
        for _ in range(100):
            scribe = random_scribe(choose, choose.randint(1, 3))
            words = random_words(choose, choose.randint(1, 4))
            try:
                told = pulled(scribe, words)
            except TooMany as error:
                met.add(error.most)
                continue
            self.assertEqual(least_words(told), told)
            for text in texts_to(5):
                made = plain_scribed(scribe, text)
                self.assertIs(plain_takes(told, text), made is not None and plain_takes(words, made))
        self.assertLessEqual(met, {8})

    def test_bounds(self):
        def round_of(many):
            return ("scribe", tuple((((row + 1) % many, "a"),) * 3 for row in range(many)), ("",) + (None,) * (many - 1))
        self.assertEqual(pulled(round_of(4), length_by(2, (0,))), length_by(4, (0,)))
        self.assertEqual(len(pulled(round_of(1), length_by(8, (3,)))[1]), 8)
        self.assertEqual(len(pulled(round_of(2), length_by(8, (4,)))[1]), 8)
        self.too_many(8, pulled, round_of(3), length_by(4, (0,)))
        self.assertEqual(pulled(scribe=DOUBLE, words=all_texts()), all_texts())
