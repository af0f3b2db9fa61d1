from helpers import ODD, Case, chance, parts_of, at_path, exchanged, wrong_kinds, wrong_lengths
from shortly import chain, doubling, random_short, say, short, then, written_out
from samewriting.errors import BadIndex, BadNumber, BadShort, BadStretch, BadWord, TooMany
from samewriting.known import golden_short, parity_short
from samewriting.shorts import behind, cut_out, first_in, is_short, length, letter_at, stretch_of, tally, times_in, turned_about

HAND = short(say("ab"), then(0, 0), then(1, 0))


def indexes(text, word):
    return [index for index in range(len(text)) if text.startswith(word, index)]


class IsShort(Case):
    def test_right_ones(self):
        for rows in ((say(""),), (say("a" * 40),), (say("abc"), say("")), (say("a"), then(0, 0), then(0, 1), then(2, 2)), (say("a"),) * 4000):
            self.assertIs(is_short(("short", rows)), True)
        choose = chance(1)
        for _ in range(100):
            self.assertIs(is_short(random_short(choose, 20)), True)

    def test_bounds(self):
        self.assertIs(is_short(("short", ())), False)
        self.assertIs(is_short(doubling("a", 4000)), True)
        self.assertIs(is_short(doubling("a", 4001)), False)
        self.assertIs(is_short(("short", (say("a"),) * 4001)), False)
        self.assertIs(is_short(short(say("c" * 40))), True)
        self.assertIs(is_short(short(say("c" * 41))), False)
        for rows in ((then(0, 0),), (say("a"), then(0, 1)), (say("a"), then(1, 0)), (say("a"), then(-1, 0)), (say("a"), then(0, -1)), (say("a"), then(0, 2), say("b")),
                     (say("a"), then(True, 0)), (say("a"), then(0, False)), (say("a"), then(0, 0.0)), (say("a"), ("then", 0)), (say("a"), ("then", 0, 0, 0)),
                     (say("d"),), (say("A"),), (say("a "),), (say("a\n"),), (say(None),), (say(("a",)),), (say(b"a"),), (("say",),), (("say", "a", "b"),), (("room", 0, 0),), ("say",), ((),)):
            self.assertIs(is_short(("short", rows)), False, rows)

    def test_wrong_ones(self):
        self.takes_none_of(is_short, ODD + (list(HAND), HAND[:1], HAND + ((),), ("shorts",) + HAND[1:], ("short", list(HAND[1])), HAND[1]))
        self.takes_none_of(is_short, wrong_kinds(HAND))
        for path, thing in wrong_lengths(HAND):
            self.assertIs(is_short(thing), path == (1,) and thing[1][0][0] == "say" and all(
                row[0] == "say" or max(row[1:]) < place for place, row in enumerate(thing[1])), thing)
        choose = chance(2)
        for _ in range(20):
            told = random_short(choose, 6)
            for path in parts_of(told):
                for other in (None, 99, -1, "x", (), ("say", "x")):
                    self.assertIs(is_short(exchanged(told, path, other)), False, (at_path(told, path), other))

    def test_all_functions_refuse_what_is_none(self):
        for thing in ODD + (HAND[1], short(then(0, 0)), doubling("a", 4001)):
            for function in (length, tally, turned_about):
                self.raises(BadShort, function, thing)
            for function in (letter_at, times_in, first_in):
                self.raises(BadShort, function, thing, None)
            for function in (stretch_of, cut_out):
                self.raises(BadShort, function, thing, None, None)
            self.raises(BadShort, behind, thing, HAND)
            self.raises(BadShort, behind, HAND, thing)
            self.raises(BadShort, behind, thing, doubling("a", 4000))


class WrittenOut(Case):
    def test_by_hand(self):
        self.assertEqual(written_out(HAND), "ababab")
        self.assertEqual(length(HAND), 6)
        self.assertEqual(tally(HAND), (3, 3, 0))
        self.assertEqual(letter_at(HAND, 3), "b")
        self.assertEqual(times_in(HAND, "aba"), 2)
        self.assertEqual(first_in(HAND, "ba"), 1)
        self.assertIs(first_in(HAND, "bb"), None)
        self.assertEqual(stretch_of(HAND, 1, 4), "bab")
        self.assertEqual(written_out(cut_out(HAND, 1, 4)), "bab")
        self.assertEqual(turned_about(HAND), short(say("ba"), then(0, 0), then(0, 1)))
        self.assertEqual(written_out(behind(HAND, HAND)), "abababababab")

    def test_by_name(self):
        self.assertEqual((length(short=HAND), tally(short=HAND), letter_at(short=HAND, index=0)), (6, (3, 3, 0), "a"))
        self.assertEqual((stretch_of(short=HAND, begin=0, end=2), written_out(cut_out(short=HAND, begin=0, end=2))), ("ab", "ab"))
        self.assertEqual(written_out(turned_about(short=HAND)), "bababa")
        self.assertEqual(written_out(behind(one=HAND, other=short(say("c")))), "abababc")
        self.assertEqual((times_in(short=HAND, word="ab"), first_in(short=HAND, word="ab")), (3, 0))

    def test_by_words(self):
        choose = chance(3)
        done = 0
        for _ in range(400):
            told = random_short(choose, choose.choice((3, 8, 14)), choose.choice(("a", "ab", "abc")))
            text = written_out(told)
            self.assertEqual(length(told), len(text))
            self.assertEqual(tally(told), tuple(text.count(letter) for letter in "abc"))
            turned = turned_about(told)
            self.assertEqual(len(turned[1]), len(told[1]))
            for place in range(len(told[1])):
                self.assertEqual(written_out(("short", turned[1][:place + 1])), written_out(("short", told[1][:place + 1]))[::-1])
            if len(text) > 400:
                continue
            done += 1
            self.assertEqual("".join(letter_at(told, index) for index in range(len(text))), text)
            for _ in range(5):
                begin = choose.randint(0, len(text))
                end = choose.randint(begin, len(text))
                self.assertEqual(stretch_of(told, begin, end), text[begin:end])
                cut = cut_out(told, begin, end)
                self.assertIs(is_short(cut), True)
                self.assertEqual(written_out(cut), text[begin:end])
                self.assertEqual(written_out(behind(told, cut)), text + text[begin:end])
                word = text[begin:begin + choose.randint(1, 20)] or choose.choice(("a", "ba", "abc", "c" * 20))
                self.assertEqual(times_in(told, word), len(indexes(text, word)))
                self.assertEqual(first_in(told, word), next(iter(indexes(text, word)), None))
        self.assertGreater(done, 200)

    def test_empty_ones(self):
        empty = short(say(""), then(0, 0), then(1, 0))
        self.assertEqual((length(empty), tally(empty), stretch_of(empty, 0, 0), written_out(cut_out(empty, 0, 0))), (0, (0, 0, 0), "", ""))
        self.assertEqual((times_in(empty, "a"), first_in(empty, "a")), (0, None))
        self.raises(BadIndex, letter_at, empty, 0)
        # Very many empty texts are no hindrance.
        empty = ("short", doubling("", 2000)[1] + (say("a"), then(1999, 2000), then(2001, 1999)) + tuple(then(2002 + place, 1999) for place in range(1000)))
        self.assertEqual(self.within(5, stretch_of, empty, 0, 1), "a")
        self.assertEqual(self.within(5, letter_at, empty, 0), "a")
        self.assertEqual(written_out(self.within(5, cut_out, empty, 0, 1)), "a")
        self.assertEqual((self.within(5, times_in, empty, "a"), first_in(empty, "a")), (1, 0))

    def test_words_at_borders(self):
        # A word over three rows and more, and longer than what stands there.
        told = short(say("a"), say("b"), say("c"), then(0, 1), then(3, 2), then(4, 4), then(5, 5), then(6, 6))
        text = written_out(told)
        for many in range(1, 21):
            for begin in range(len(text) - many + 1):
                word = text[begin:begin + many]
                self.assertEqual((times_in(told, word), first_in(told, word)), (len(indexes(text, word)), text.index(word)))
        ones = chain("a", 30)
        for many in range(1, 21):
            self.assertEqual((times_in(ones, "a" * many), first_in(ones, "a" * many)), (31 - many, 0))


class Bounds(Case):
    def test_indexes(self):
        for index in (6, 7, 10 ** 30, -1, None, "0", True, 0.0, (0,), [0]):
            self.raises(BadIndex, letter_at, HAND, index)
        self.assertEqual([letter_at(HAND, index) for index in range(6)], list("ababab"))

    def test_stretches(self):
        for begin, end in ((-1, 2), (0, 7), (3, 2), (7, 7), (0, None), (None, 2), (True, 2), (0, True), ("0", 2), (0.0, 2), (0, (1,))):
            self.raises(BadStretch, stretch_of, HAND, begin, end)
            self.raises(BadStretch, cut_out, HAND, begin, end)
        for place in range(7):
            self.assertEqual(stretch_of(HAND, place, place), "")
            self.assertEqual(written_out(cut_out(HAND, place, place)), "")
        long = doubling("ab", 4000)
        end = 2 ** 4000
        self.assertEqual(stretch_of(long, end - 1000, end), "ab" * 500)
        self.assertEqual(stretch_of(long, 2 ** 3999 - 1, 2 ** 3999 + 999), "ba" * 500)
        self.too_many(1000, stretch_of, long, end - 1001, end)
        self.too_many(1000, stretch_of, long, 0, end)
        self.raises(BadStretch, stretch_of, long, end - 1000, end + 1)
        self.raises(BadStretch, stretch_of, long, end, 0)

    def test_words(self):
        for word in ("", "a" * 21, "d", "A", " ", "a\n", None, 0, ("a",), ["a"], b"a", "abcd"):
            self.raises(BadWord, times_in, HAND, word)
            self.raises(BadWord, first_in, HAND, word)
        for word in ("a", "b", "ab" * 10, "a" * 20):
            text = written_out(HAND) * 10
            told = short(say("ab"), then(0, 0), then(1, 0), *[then(2, 2 + place) for place in range(9)])
            self.assertEqual(written_out(told), text)
            self.assertEqual(times_in(told, word), len(indexes(text, word)))

    def test_behind(self):
        for one, other in ((1, 3998), (3998, 1), (2000, 1999), (1999, 2000)):
            told = behind(doubling("a", one), doubling("b", other))
            self.assertIs(is_short(told), True)
            self.assertEqual(tally(told), (2 ** (one - 1), 2 ** (other - 1), 0))
        for one, other in ((1, 3999), (3999, 1), (2000, 2000), (4000, 4000), (4000, 1)):
            self.too_many(4000, behind, doubling("a", one), doubling("b", other))

    def test_cutting_a_thousand_rows(self):
        # Never too many rows.
        choose = chance(4)
        for made in (doubling, chain):
            told = made("abc", 1000)
            many = length(told)
            for _ in range(8):
                begin, end = sorted((choose.randrange(many + 1), choose.randrange(many + 1)))
                cut = self.within(5, cut_out, told, begin, end)
                self.assertIs(is_short(cut), True)
                self.assertEqual(length(cut), end - begin)
                for _ in range(5):
                    at = choose.randrange(end - begin) if end > begin else 0
                    most = min(end - begin, at + 50)
                    self.assertEqual(stretch_of(cut, at, most), stretch_of(told, begin + at, begin + most))
        rows = [say("abc"), say("b")]
        while len(rows) < 1000:
            rows.append(then(choose.randrange(max(0, len(rows) - 3), len(rows)), choose.randrange(max(0, len(rows) - 3), len(rows))))
        told = ("short", tuple(rows))
        many = length(told)
        for _ in range(20):
            begin, end = sorted((choose.randrange(many + 1), choose.randrange(many + 1)))
            cut = cut_out(told, begin, end)
            self.assertLessEqual(len(cut[1]), 4000)
            self.assertEqual(length(cut), end - begin)
            self.assertEqual(tally(behind(cut_out(cut, 0, (end - begin) // 2), short(say("")))) [0] + tally(cut_out(cut, (end - begin) // 2, end - begin))[0], tally(cut)[0])

    def test_cutting_long_ones(self):
        told = chain("abc", 3990)
        self.assertEqual(written_out(self.within(5, cut_out, told, 1, 11969)), ("abc" * 3990)[1:11969])
        try:
            cut = cut_out(doubling("ab", 4000), 3, 2 ** 4000 - 3)
        except TooMany as error:
            self.assertEqual(error.most, 4000)
        else:
            self.assertEqual(length(cut), 2 ** 4000 - 6)
        self.assertEqual(length(cut_out(doubling("ab", 4000), 0, 2 ** 4000)), 2 ** 4000)
        self.assertEqual(length(cut_out(doubling("ab", 4000), 0, 2 ** 3999)), 2 ** 3999)

    def test_soon(self):
        long = self.within(1, doubling, "ab", 4000)
        self.assertIs(self.within(5, is_short, long), True)
        self.assertEqual(self.within(5, length, long), 2 ** 4000)
        self.assertEqual(self.within(5, tally, long), (2 ** 3999, 2 ** 3999, 0))
        self.assertEqual(self.within(5, letter_at, long, 2 ** 3999 + 1), "b")
        self.assertEqual(self.within(5, times_in, long, "ba" * 10), 2 ** 3999 - 10)
        self.assertEqual(self.within(5, times_in, long, "ab" * 10), 2 ** 3999 - 9)
        self.assertEqual(self.within(5, first_in, turned_about(long), "ab"), 1)
        self.assertEqual(len(self.within(5, turned_about, long)[1]), 4000)


class Known(Case):
    def test_by_words(self):
        for many in range(13):
            self.assertEqual(written_out(parity_short(many)), "".join("ab"[bin(index).count("1") % 2] for index in range(2 ** many)))
        one, other = "a", "ab"
        for many in range(16):
            self.assertEqual(written_out(golden_short(many)), one)
            one, other = other, other + one

    def test_bounds(self):
        for function in (parity_short, golden_short):
            for many in (0, 1, 2, 1000):
                self.assertIs(is_short(function(many)), True)
                self.assertIs(is_short(function(many=many)), True)
            for many in (-1, 1001, None, "1", True, 1.0, (1,), [], 10 ** 30):
                self.raises(BadNumber, function, many)
        self.assertEqual(length(parity_short(1000)), 2 ** 1000)
        self.assertEqual(tally(parity_short(1000)), (2 ** 999, 2 ** 999, 0))
        golden = [1, 2]
        while len(golden) <= 1000:
            golden.append(golden[-1] + golden[-2])
        self.assertEqual(length(golden_short(1000)), golden[1000])
        self.assertEqual(tally(golden_short(1000)), (golden[999], golden[998], 0))
        self.assertEqual(letter_at(parity_short(1000), 2 ** 999), "b")
        choose = chance(5)
        for _ in range(30):
            index = choose.randrange(2 ** 1000)
            self.assertEqual(letter_at(parity_short(1000), index), "ab"[bin(index).count("1") % 2])

    def test_facts(self):
        # In none of the first ones any word stands three times in a row; aa, bb do twice.
        told = parity_short(1000)
        for word in ("a", "b", "ab", "ba", "aab", "aba", "abb", "abba", "baab", "abbab"):
            self.assertIs(first_in(told, (word * 4)[:3 * len(word)]), None)
        self.assertEqual(first_in(told, "bb"), 1)
        self.assertIs(first_in(told, "ababa"), None)
        self.assertEqual(times_in(told, "aa") + times_in(told, "bb") + times_in(told, "ab") + times_in(told, "ba"), 2 ** 1000 - 1)
        # In the other ones there is no bb, and no aaa.
        told = golden_short(1000)
        self.assertIs(first_in(told, "bb"), None)
        self.assertIs(first_in(told, "aaa"), None)
        self.assertEqual(first_in(told, "aa"), 2)
        self.assertEqual(times_in(told, "b"), tally(told)[1])
