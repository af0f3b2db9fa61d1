from helpers import EF, EFS, ES, ODD, Case, balanced, chance, comb, cycle, every_tree, left_comb, one_state, random_kinds, random_set, set_of
from templating import LIST, PAIRS, random_template, say
from test_templates import along, nested, to, when, with_body
from viable import TemplateWays, TreeWays, longest
from samewriting.errors import BadKinds, BadSet, BadTemplate, BadText, BadTree
from samewriting.templates import is_template
from samewriting.texts import template_of, template_text
from samewriting.trees import is_tree
from samewriting.treetexts import tree_of, tree_text

EVERY = one_state(EF)
LONG = ("e: \nn: a\np: {for p in 1 use 0 with b else c}")


def bent_ones(choose, text, letters, words):
    """A text cut, with letters and words put in, taken out, doubled or exchanged at one place or two."""
    for _ in range(choose.choice((1, 1, 2))):
        at = choose.randint(0, len(text))
        end = min(len(text), at + choose.choice((1, 1, 2, 5)))
        way = choose.randrange(6)
        if way == 0:
            text = text[:at]
        elif way == 1:
            text = text[:at] + choose.choice(letters) + text[at:]
        elif way == 2:
            text = text[:at] + text[end:]
        elif way == 3:
            text = text[:at] + text[at:end] + text[at:]
        elif way == 4:
            text = text[:at] + choose.choice(words) + text[at:]
        else:
            text = text[:at] + choose.choice(letters) + text[end:]
    return text


class TemplateTexts(Case):
    def check(self, trees, text):
        """What a text is read as, told as the slow way tells it."""
        at, is_whole = longest(TemplateWays(trees), text)
        if is_whole:
            told = template_of(trees, text)
            self.assertIs(is_template(trees, told), True)
            self.assertEqual(template_text(trees, told), text)
            return None
        self.wrong(trees, text, at)
        return at

    def wrong(self, trees, text, at):
        self.assertEqual(self.raises(BadText, template_of, trees, text).at, at, text)

    def there_and_back(self, trees, template):
        text = template_text(trees, template)
        self.assertEqual(template_of(trees, text), template)
        return text

    def test_by_hand(self):
        self.assertEqual(self.there_and_back(PAIRS, LIST), LONG)
        self.wrong(PAIRS, "e: {call 0 on 0}", 3)
        self.assertEqual(self.there_and_back(EVERY, (((), ()), ((say("a"),), (to(1, 0),)))), "e: \nf: \n\ne: a\nf: {call 1 on 0}")
        three = cycle(3, (), EF)
        body = (when(1, (0, 2), (say("ab"),), (when(0, (1,), ()),)), along(0, 0), say("c"))
        self.assertEqual(self.there_and_back(three, with_body(body)),
                         "e: \nf: {if 1 in 0,2}ab{else}{if 0 in 1}{else}{end}{end}{for f in 0 use 0 with - else -}c")
        self.assertEqual(template_of(trees=PAIRS, text=template_text(trees=PAIRS, template=LIST)), LIST)

    def test_there_and_back(self):
        choose = chance(1)
        met = {}
        for _ in range(300):
            kinds = random_kinds(choose)
            trees = random_set(choose, kinds, choose.choice((2, 3, 6)))
            template = random_template(choose, trees, choose.randint(1, 4))
            if is_template(trees, template):
                text = self.there_and_back(trees, template)
                # No two templates have one text.
                self.assertEqual(met.setdefault((trees, text), template), template)

    def test_bent_texts(self):
        choose = chance(2)
        words = ("{call 0 on 0}", "{call 1 on 1}", "{if 0 in 0}", "{else}", "{end}", "{for f in 0 use 0 with - else a}", "e: ", "f: ", "\n", "\n\n", "0,1", "a" * 9)
        letters = "abc{}0129-, :\nefinxd%A"
        places = set()
        wholes = 0
        for _ in range(700):
            kinds = choose.choice((EF, ES, EFS, (("e", 0), ("en", 2), ("fe", 2)), (("a", 0), ("ab", 0), ("abc", 3))))
            trees = random_set(choose, kinds, choose.choice((1, 2, 3)))
            text = template_text(trees, random_template(choose, trees, choose.randint(1, 2), 1))
            if len(text) < 150:
                told = self.check(trees, bent_ones(choose, text, letters, words))
                places.add(told)
                wholes += told is None
        self.assertGreater(len(places), 60)
        self.assertGreater(wholes, 20)

    def test_each_beginning(self):
        # Each beginning can go on; with a sign that fits nowhere behind it, it goes no further.
        for trees, template in ((PAIRS, LIST), (cycle(3, (), EF), with_body((when(1, (0, 2), (say("ab"),), (when(0, (1,), ()),)), along(0, 0, "a", "bc"), to(1, 1)), 2))):
            text = self.there_and_back(trees, template)
            for at in range(len(text)):
                self.check(trees, text[:at])
                self.wrong(trees, text[:at] + "?", at)
                self.wrong(trees, text[:at] + "?" + text[at:], at)
            self.wrong(trees, text + "?", len(text))

    def test_blocks(self):
        def text(many, called=0):
            return "\n\n".join(["e: \nf: {call %d on 0}" % called] + ["e: \nf: "] * (many - 1))
        self.assertEqual(len(template_of(EVERY, text(8))), 8)
        self.assertEqual(len(template_of(EVERY, text(8, 7))), 8)
        self.wrong(EVERY, text(9), len(text(8)))
        self.wrong(EVERY, text(8) + "\n", len(text(8)))
        self.wrong(EVERY, text(1, 8), len("e: \nf: {call "))
        # A block that is called may still come: so all of it is a beginning.
        self.wrong(EVERY, text(7, 7), len(text(7)))
        self.wrong(EVERY, text(1, 1), len(text(1)))
        self.assertEqual(len(template_of(EVERY, text(2, 1))), 2)
        self.wrong(EVERY, text(2) + "\n\n", len(text(2)) + 2)
        self.wrong(EVERY, text(2) + "\n\ne: ", len(text(2)) + 5)
        self.wrong(EVERY, text(1) + "\ne", len(text(1)) + 1)
        self.wrong(EVERY, text(1)[:-1], len(text(1)) - 1)

    def test_items(self):
        one = "{call 0 on 0}"
        for trees in (EVERY, cycle(2, (), EF)):
            self.assertEqual(len(template_of(trees, "e: \nf: " + one * 60)[0][1]), 60)
            self.wrong(trees, "e: \nf: " + one * 61, len("e: \nf: " + one * 60))
            self.wrong(trees, "e: \nf: " + one * 60 + "a", len("e: \nf: " + one * 60))
            hundred = "e: \nf: " + one * 60 + "\n\ne: a\nf: " + one * 39
            self.assertEqual(len(template_of(trees, hundred)), 2)
            self.wrong(trees, hundred + one, len(hundred))
            self.wrong(trees, hundred + "a", len(hundred))
        # What is in ifs counts as well: behind item 100 just the ends of ifs can come.
        inner = "e: \nf: {if 0 in 0}" + one * 60 + "{else}" + one * 38 + "a"
        self.assertEqual(len(template_of(EVERY, inner + "{end}")), 1)
        self.assertEqual(len(template_of(EVERY, inner + "b" * 39 + "{end}")), 1)
        self.wrong(EVERY, inner + "b" * 40 + "{end}", len(inner) + 39)
        self.wrong(EVERY, inner + "{call", len(inner) + 1)
        self.wrong(EVERY, inner + "{else}", len(inner) + 2)
        self.wrong(EVERY, inner + "{end}a", len(inner) + 5)
        self.wrong(EVERY, inner + "{end}\n\ne: a", len(inner) + 10)
        self.wrong(EVERY, "e: \nf: {if 0 in 0}" + one * 61, len("e: \nf: {if 0 in 0}" + one * 60) + 1)
        self.wrong(EVERY, "e: \nf: {if 0 in 0}" + one * 60 + "{e", len("e: \nf: {if 0 in 0}" + one * 60) + 2)

    def test_letters(self):
        for many in (1, 39, 40, 41, 79, 80, 81, 120):
            text = "e: " + "a" * many + "\nf: "
            told = template_of(EVERY, text)[0][0]
            self.assertEqual([len(item[1]) for item in told], [40] * (many // 40) + [many % 40] * (many % 40 > 0))
            self.assertEqual(template_text(EVERY, (((told), ()),)), text)
        self.assertEqual(len(template_of(EVERY, "e: " + "abc" * 800 + "\nf: ")[0][0]), 60)
        self.wrong(EVERY, "e: " + "abc" * 801 + "\nf: ", 3 + 2400)
        self.wrong(EVERY, "e: " + "abc" * 800 + "\nf: " + "a" * 1601, 3 + 2400 + 4 + 1600)
        self.wrong(EVERY, "e: d", 3)
        self.wrong(EVERY, "e: A", 3)

    def test_between_and_instead(self):
        for letters in ("-", "a", "abcabcab"):
            for other in ("-", "b", "c" * 8):
                text = "e: \nf: {for f in 0 use 0 with %s else %s}" % (letters, other)
                self.assertEqual(self.check(EVERY, text), None)
        begin = "e: \nf: {for f in 0 use 0 with "
        self.wrong(EVERY, begin + "a" * 9, len(begin) + 8)
        self.wrong(EVERY, begin + " else a}", len(begin))
        self.wrong(EVERY, begin + "-a", len(begin) + 1)
        self.wrong(EVERY, begin + "a-", len(begin) + 1)
        self.wrong(EVERY, begin + "a else " + "b" * 9, len(begin) + 15)
        self.wrong(EVERY, begin + "a else }", len(begin) + 7)
        self.wrong(EVERY, begin + "a else --", len(begin) + 8)
        self.wrong(EVERY, begin + "a el}", len(begin) + 4)

    def test_ifs(self):
        twelve = with_body(nested(12, (say("a"),)))
        self.there_and_back(EVERY, twelve)
        begin = "e: \nf: " + "{if 0 in 0}" * 12
        self.wrong(EVERY, begin + "{if 0 in 0}", len(begin) + 1)
        self.wrong(EVERY, begin + "{for f in 0 use 0 with - else -}{i", len(begin) + 33)
        # Beside each other there may be more.
        self.there_and_back(EVERY, with_body(nested(12) * 2 + nested(11)))

    def test_numbers(self):
        sixty = set_of(ES, 60, lambda name, states: 0)
        begin = "e: \ns: {if 0 in "
        for states, at in (("5}", None), ("59}", None), ("0,59}", None), ("4,5,40,41}", None), ("60}", 1), ("6,60}", 2), ("00}", 1), ("05}", 1), ("0,0}", 2),
                           ("5,4}", 3), ("5,40}", None), ("5,45,4}", 6), ("5,49,5}", 6), ("5,49,50}", None), ("59,", 2), ("58,5", 4), ("58,58}", 4), ("}", 0), (",", 0), ("1,}", 2), ("1,,", 2), ("1 ", 1), ("-1}", 0), ("001", 1)):
            text = begin + states + ("{else}{end}" if at is None else "")
            self.assertEqual(self.check(sixty, text), None if at is None else len(begin) + at, states)
        self.assertEqual(self.check(EVERY, "e: \nf: {call 00 on 0}"), len("e: \nf: {call 0"))
        self.assertEqual(self.check(EVERY, "e: \nf: {call 0 on 01}"), len("e: \nf: {call 0 on 0"))
        self.assertEqual(self.check(EVERY, "e: \nf: {call 0 on 2}"), len("e: \nf: {call 0 on "))
        self.assertEqual(self.check(EVERY, "e: \nf: {call  0 on 2}"), len("e: \nf: {call "))

    def test_kinds(self):
        kinds = (("a", 2), ("ab", 2), ("abc", 1), ("e", 0))
        trees = one_state(kinds)
        begin = "a: {for "
        for name, at in (("a", None), ("ab", None), ("abc", 2), ("e", 0), ("b", 0), ("ac", 1), ("", 0)):
            text = begin + name + " in 0 use 0 with - else -}\nab: \nabc: \ne: "
            self.assertEqual(self.check(trees, text), None if at is None else len(begin) + at)
        self.assertEqual(self.check(one_state(ES), "e: \ns: {for"), len("e: \ns: {"))
        self.assertEqual(self.check(trees, "a: \nabc: "), 6)
        self.assertEqual(self.check(trees, "ab: "), 1)
        self.assertEqual(self.check(trees, "a: \nab: \nabc: {call 0 on 1}"), len("a: \nab: \nabc: {call 0 on "))
        self.assertEqual(self.check(trees, "a: \nab: \nabc: \ne: {"), len("a: \nab: \nabc: \ne: "))

    def test_largest(self):
        choose = chance(3)
        sixty = set_of(EF, 60, lambda name, states: 0)
        states = tuple(range(60))
        body = tuple(when(place % 2, states, (say("a" * 40),), (to(7, 0),)) for place in range(33))
        template = with_body(body + (say("c"),), 8)
        text = self.within(5, template_text, sixty, template)
        self.assertEqual(self.within(5, template_of, sixty, text), template)
        for _ in range(20):
            at = choose.randrange(len(text))
            self.assertLessEqual(self.raises(BadText, template_of, sixty, text[:at] + "?" + text[at:]).at, at)
        self.within(5, self.wrong, sixty, "e: " + "a" * 10 ** 6, 2403)

    def test_errors(self):
        for thing in ODD:
            self.raises(BadSet, template_text, thing, None)
            self.raises(BadSet, template_of, thing, "")
            self.raises(BadTemplate, template_text, PAIRS, thing)
            if not isinstance(thing, str):
                self.wrong(PAIRS, thing, 0)
        self.raises(BadTemplate, template_text, PAIRS, (((), (), (to(1, 0),)),))
        for text in ("", "a", "set", "n: ", "\n"):
            self.wrong(PAIRS, text, 0)
        for text in ("e", "e:", "e: ", "e: \n"):
            self.wrong(PAIRS, text, len(text))
        for text in (list(LONG), (LONG,), LONG.encode(), [LONG]):
            self.wrong(PAIRS, text, 0)


class TreeTexts(Case):
    def wrong(self, kinds, text, at):
        self.assertEqual(self.raises(BadText, tree_of, kinds, text).at, at, text)

    def check(self, kinds, text):
        at, is_whole = longest(TreeWays(kinds), text)
        if is_whole:
            told = tree_of(kinds, text)
            self.assertIs(is_tree(kinds, told), True)
            self.assertEqual(tree_text(kinds, told), text)
            return None
        self.wrong(kinds, text, at)
        return at

    def test_by_hand(self):
        self.assertEqual(tree_text(EF, ("f", ("e",), ("f", ("e",), ("e",)))), "f(e,f(e,e))")
        self.assertEqual(tree_of(EF, "f(e,f(e,e))"), ("f", ("e",), ("f", ("e",), ("e",))))
        self.assertEqual(tree_of(kinds=EF, text=tree_text(kinds=EF, tree=("e",))), ("e",))
        for text, at in (("", 0), ("f", 1), ("f(", 2), ("f(e", 3), ("f(e)", 3), ("f(e,", 4), ("f(e,e", 5), ("f(e,e))", 6), ("f(e,e),", 6), ("e(", 1), ("ee", 1),
                         ("f (e,e)", 1), ("f(e, e)", 4), ("g", 0), ("f()", 2), ("f(e,,e)", 4), (" e", 0), ("e ", 1), ("e\n", 1), ("e\n\n", 1), ("f(e,e)\n", 6), ("\n", 0), ("f\n", 1), ("f(e,e\n)", 5)):
            self.wrong(EF, text, at)
            self.assertEqual(self.check(EF, text), at)

    def test_there_and_back(self):
        choose = chance(4)
        for _ in range(30):
            kinds = random_kinds(choose)
            trees = every_tree(kinds, 6)[:80]
            texts = [tree_text(kinds, tree) for tree in trees]
            self.assertEqual([tree_of(kinds, text) for text in texts], trees)
            self.assertEqual(len(set(texts)), len(trees))

    def test_bent_texts(self):
        choose = chance(5)
        places = set()
        for _ in range(500):
            kinds = choose.choice((EF, EFS, (("a", 0), ("ab", 0), ("abc", 2), ("b", 1)), (("e", 0), ("ef", 3), ("f", 0)), random_kinds(choose)))
            text = tree_text(kinds, choose.choice(every_tree(kinds, 7)[:200]))
            places.add(self.check(kinds, bent_ones(choose, text, "abcefs(),? \n", ("f(", "e,e)", "(e", "))", ",", "ab"))))
        self.assertIn(None, places)
        self.assertGreater(len(places), 12)

    def test_nodes_and_levels(self):
        # 400 nodes, and 401: the last letter that can come is that ahead of too many.
        full = ("f", balanced(8), ("f", balanced(7), ("s", ("f", balanced(3), balanced(3)))))
        text = tree_text(EFS, full)
        self.assertEqual(tree_of(EFS, text), full)
        more = full
        while is_tree(EFS, ("s", more)):
            more = ("s", more)
        text = tree_text(EFS, more)
        self.assertEqual(text.count("e") + text.count("f") + text.count("s"), 400)
        self.assertEqual(tree_of(EFS, text), more)
        self.wrong(EFS, "s(" + text + ")", self.at_most(EFS, "s(" + text + ")"))
        deep = tree_text(ES, comb(59))
        self.assertEqual(tree_of(ES, deep), comb(59))
        self.wrong(ES, "s(" + deep + ")", 2 * 59)
        self.wrong(EF, "f(" * 59 + "e" + ",e)" * 58 + ",f(", 2 * 59 + 1 + 3 * 58 + 3)
        self.assertEqual(tree_of(EF, tree_text(EF, left_comb(59))), left_comb(59))
        self.wrong(EF, "f(" * 60, 2 * 59)
        self.wrong(EF, "f(" * 59 + "f", 2 * 59)

    def at_most(self, kinds, text):
        return longest(TreeWays(kinds), text)[0]

    def test_too_many_nodes_to_come(self):
        # What is begun must be ended by leaves: so names that want too many are seen ahead of them.
        kinds = (("e", 0), ("f", 3), ("g", 1))
        wide = "e"
        for _ in range(5):
            wide = "f(" + ",".join([wide] * 3) + ")"
        self.assertEqual(wide.count("e") + wide.count("f"), 364)
        self.assertEqual(len(tree_text(kinds, tree_of(kinds, wide))), len(wide))
        text = "g(" * 36 + wide + ")" * 36
        self.assertEqual(tree_text(kinds, tree_of(kinds, text)), text)
        text = "g(" * 37 + wide + ")" * 37
        at = self.at_most(kinds, text)
        self.assertTrue(0 < at < len(text) and text[at] in "fg")
        self.wrong(kinds, text, at)
        text = "f(" + wide + "," + wide + ",e)"
        at = self.at_most(kinds, text)
        self.wrong(kinds, text, at)
        self.assertIn(text[at], "f")

    def test_errors(self):
        for thing in ODD:
            self.raises(BadKinds, tree_text, thing, None)
            self.raises(BadKinds, tree_of, thing, "e")
            self.raises(BadTree, tree_text, EF, thing)
            if not isinstance(thing, str):
                self.wrong(EF, thing, 0)
        self.raises(BadTree, tree_text, EF, left_comb(60))
        self.wrong(EF, ["e"], 0)
        self.wrong(EF, b"e", 0)
        self.wrong(EF, ("e",), 0)
