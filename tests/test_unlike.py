from helpers import ODD, Case, chance
from shortly import chain, cut_up, doubling, random_short, say, short, then, written_out
from samewriting.blocks import Blocks
from samewriting.errors import BadShort
from samewriting.known import golden_short, parity_short
from samewriting.shorts import behind, cut_out, is_short, length, letter_at, turned_about
from samewriting.unlike import first_unlike, is_ahead

HAND = short(say("ab"), then(0, 0), then(1, 0))


def plain_unlike(one, other):
    for place in range(min(len(one), len(other))):
        if one[place] != other[place]:
            return place
    return None if len(one) == len(other) else min(len(one), len(other))


def parted(told, at):
    """The same text, put together of two cuts."""
    return behind(cut_out(told, 0, at), cut_out(told, at, length(told)))


class FirstUnlike(Case):
    def check(self, one, other):
        texts = [written_out(one), written_out(other)]
        wanted = plain_unlike(*texts)
        self.assertEqual(first_unlike(one, other), wanted)
        self.assertEqual(first_unlike(other, one), wanted)
        self.assertIs(is_ahead(one, other), texts[0] < texts[1])
        self.assertIs(is_ahead(other, one), texts[1] < texts[0])
        return wanted

    def test_by_hand(self):
        self.assertEqual(first_unlike(HAND, short(say("ababaa"))), 5)
        self.assertEqual(first_unlike(HAND, short(say("abab"))), 4)
        self.assertIs(first_unlike(HAND, short(say("ababab"))), None)
        self.assertEqual(first_unlike(one=short(say("")), other=HAND), 0)
        self.assertIs(first_unlike(short(say("")), short(say(""), then(0, 0))), None)
        self.assertIs(is_ahead(short(say("abab")), HAND), True)
        self.assertIs(is_ahead(HAND, short(say("abab"))), False)
        self.assertIs(is_ahead(HAND, HAND), False)
        self.assertIs(is_ahead(one=short(say("ababaa")), other=HAND), True)
        self.assertIs(is_ahead(short(say("")), short(say(""))), False)
        self.assertIs(is_ahead(short(say("")), short(say("a"))), True)

    def test_by_words(self):
        choose = chance(1)
        met = {None: 0, 0: 0, 1: 0}
        for _ in range(600):
            letters = choose.choice(("a", "ab", "abc", "aab"))
            one = random_short(choose, 14, letters)
            text = written_out(one)
            if len(text) > 1500:
                continue
            if text and choose.random() < 0.5:
                at = choose.randrange(len(text))
                text = choose.choice((text[:at] + choose.choice("abc") + text[at + 1:], text[:at], text[:at] + text[at + 1:], text[:at] + "b" + text[at:], text + choose.choice("abc"),
                                      text[at:] + text[:at], text + text[:at]))
            told = self.check(one, cut_up(choose, text))
            met[told if told is None else min(told, 1)] += 1
        self.assertGreater(min(met.values()), 10)

    def test_however_it_is_put_together(self):
        # Equal texts come to equal layers: so they are told apart by what they bear alone.
        choose = chance(2)
        for _ in range(150):
            text = written_out(random_short(choose, 12, choose.choice(("a", "ab", "abc"))))[:3000]
            blocks = Blocks()
            wanted = blocks.of_letters(text)
            for _ in range(3):
                texts = []
                for row in cut_up(choose, text)[1]:
                    texts.append(blocks.of_letters(row[1]) if row[0] == "say" else blocks.put_behind(texts[row[1]], texts[row[2]]))
                self.assertEqual(texts[-1], wanted)

    def test_runs(self):
        # Many equal letters, and many equal words.
        for word in ("a", "ab", "abc", "aab", "abbaab"):
            for many in (1, 2, 3, 10, 1000, 4000 - 30):
                whole = doubling(word, 12)
                rows = chain(word, many)
                if length(rows) <= length(whole):
                    self.check(rows, cut_out(whole, 0, length(rows)))
                    self.check(rows, whole)
        long = doubling("a", 3000)
        self.assertEqual(first_unlike(long, cut_out(doubling("a", 1000), 0, 2 ** 998 + 5)), 2 ** 998 + 5)
        self.assertEqual(first_unlike(long, behind(doubling("a", 900), short(say("b")))), 2 ** 899)
        self.assertIs(first_unlike(doubling("ab", 3000), doubling("abab", 2999)), None)
        self.assertEqual(first_unlike(doubling("ab", 3000), turned_about(doubling("ab", 3000))), 0)
        self.assertEqual(first_unlike(behind(short(say("b")), doubling("ab", 3000)), turned_about(doubling("ab", 3000))), 2 ** 3000)

    def test_errors(self):
        for thing in ODD + (HAND[1], doubling("a", 4001)):
            for function in (first_unlike, is_ahead):
                self.raises(BadShort, function, thing, HAND)
                self.raises(BadShort, function, HAND, thing)


class LongOnes(Case):
    def soon(self, one, other):
        return self.within(20, first_unlike, one, other)

    def test_words_of_parities(self):
        told = parity_short(500)
        self.assertIs(self.soon(told, parted(told, 3 ** 300)), None)
        # Each turned about is itself, or itself with letters exchanged.
        self.assertIs(self.soon(parity_short(1000), turned_about(parity_short(1000))), None)
        self.assertEqual(self.soon(parity_short(999), turned_about(parity_short(999))), 0)
        # Told by four instead of by two.
        rows = [say("abba"), say("baab")]
        for _ in range(499):
            here = len(rows) - 2
            rows += [then(here, here + 1), then(here + 1, here), then(here + 2, here + 3), then(here + 3, here + 2)]
        self.assertIs(self.soon(parity_short(1000), ("short", tuple(rows[:-1]))), None)
        self.assertEqual(self.soon(parity_short(1000), parity_short(999)), 2 ** 999)
        self.assertIs(is_ahead(parity_short(999), parity_short(1000)), True)
        self.assertEqual(self.soon(parity_short(1000), behind(parity_short(999), parity_short(999))), 2 ** 999)

    def test_one_letter_far_away(self):
        choose = chance(3)
        told = parity_short(300)
        for _ in range(10):
            at = choose.randrange(2 ** 300)
            letter = letter_at(told, at)
            other = "a" if letter == "b" else "c"
            bent = behind(behind(cut_out(told, 0, at), short(say(other))), cut_out(told, at + 1, 2 ** 300))
            self.assertEqual(self.soon(told, bent), at)
            self.assertIs(is_ahead(told, bent), letter < other)
            self.assertIs(is_ahead(bent, told), other < letter)
            less = behind(cut_out(told, 0, at), cut_out(told, at + 1, 2 ** 300))
            self.assertLessEqual(at, self.soon(told, less))

    def test_golden_words(self):
        # g(n + 1) g(n) and g(n) g(n + 1) differ at just two indexes, the last two.
        one, other = golden_short(700), golden_short(699)
        there, back = behind(one, other), behind(other, one)
        many = length(there)
        self.assertEqual(self.soon(there, back), many - 2)
        self.assertIs(self.soon(cut_out(golden_short(990), 0, 2 ** 600), cut_out(golden_short(980), 0, 2 ** 600)), None)
        self.assertIs(self.soon(golden_short(701), there), None)
        swapped = behind(cut_out(golden_short(400), 0, length(golden_short(400)) - 2), turned_about(cut_out(golden_short(400), length(golden_short(400)) - 2, length(golden_short(400)))))
        self.assertIs(self.soon(behind(golden_short(398), golden_short(399)), swapped), None)

    def test_four_thousand_rows(self):
        rows = [say("a"), say("ab")]
        while len(rows) < 4000:
            rows.append(then(len(rows) - 1, len(rows) - 2))
        golden = ("short", tuple(rows))
        back = ("short", tuple(rows[:-1]) + (then(3997, 3998),))
        self.assertIs(is_short(golden), True)
        self.assertEqual(self.soon(golden, back), length(golden) - 2)
        self.assertIs(self.soon(golden, ("short", tuple(rows[:-1]) + (then(3998, 3997),))), None)
        self.assertIs(self.soon(doubling("ab", 4000), doubling("abab", 3999)), None)
        self.assertEqual(self.soon(doubling("ab", 4000), doubling("abab", 4000)), 2 ** 4000)
        self.assertIs(self.soon(chain("abc", 4000), cut_out(doubling("abc", 13), 0, 12000)), None)
        choose = chance(4)
        for near in (2, 5, 40):
            rows = [say(letter) for letter in "abcab"]
            while len(rows) < 4000:
                low = max(0, len(rows) - near)
                rows.append(then(choose.randrange(low, len(rows)), choose.randrange(low, len(rows))))
            told = ("short", tuple(rows))
            self.assertIs(self.soon(told, turned_about(turned_about(told))), None)
            half = ("short", tuple(rows[:990]))
            self.assertIs(self.soon(half, parted(half, length(half) // 3)), None)
            self.within(20, first_unlike, told, turned_about(told))

    def test_other_rows_of_one_text(self):
        # (x y) z and x (y z), all along.
        choose = chance(5)
        left, right = [say(letter) for letter in "abc"], [say(letter) for letter in "abc"]
        places = [(number, number) for number in range(3)]
        while len(left) < 1800:
            parts = [choose.choice(places[-4:]) for _ in range(3)]
            left += [then(parts[0][0], parts[1][0]), then(len(left), parts[2][0])]
            right += [then(parts[1][1], parts[2][1]), then(parts[0][1], len(right))]
            places.append((len(left) - 1, len(right) - 1))
        self.assertIs(self.soon(("short", tuple(left)), ("short", tuple(right))), None)
        bent = ("short", (say("b"),) + tuple(right[1:]))
        told = self.soon(("short", tuple(left)), bent)
        self.assertEqual({letter_at(("short", tuple(left)), told), letter_at(bent, told)}, {"a", "b"})
