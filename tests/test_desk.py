from unittest import mock

from helpers import EF, ES, ODD, Case, chance, comb, every_tree, is_in_set, set_of
from templating import LIST, PAIRS, plain_filled, random_template, say
from test_templates import along, nested, to, when
from samewriting.coverage import coverage, pruned
from samewriting.desk import Desk
from samewriting.errors import BadSet, BadText, BadTree, TooMany
from samewriting.filling import filled
from samewriting.plainly import plain
from samewriting.templates import is_template
from samewriting.texts import template_of, template_text
from samewriting.trees import trees_of
from samewriting.treetexts import tree_of, tree_text
from samewriting.words import KEPT, is_name

TEXT = "e: \nn: a\np: {for p in 1 use 0 with b else c}"
E, N = ("e",), ("n",)


class PlainDesk:
    """A desk by the words of the document: all rows so far are kept, and gone through anew for each answer."""

    def __init__(self, trees):
        self.trees = trees
        self.history = []

    def kept(self):
        named = ({}, {})
        for where, name, thing in self.history:
            named[where][name] = thing
        return tuple(dict(sorted(held.items())) for held in named)

    def keep(self, where, name, thing):
        self.history.append((where, name, thing))
        return "kept"

    def say(self, row):
        templates, trees = self.kept()
        if row == "undo":
            return "undone" if self.history and self.history.pop() else "nothing"
        parts = row.split(" ") if isinstance(row, str) else [""]
        if parts[0] in ("let", "tree") and len(parts) > 2 and is_name(parts[1]):
            text = row[len(parts[0]) + len(parts[1]) + 2:]
            try:
                if parts[0] == "let":
                    return self.keep(0, parts[1], template_of(self.trees, text))
                return self.keep(1, parts[1], tree_of(self.trees[1], text))
            except BadText as error:
                return f"wrong {error.at}"
        forms = {"fill": "TR", "plain": "TN", "prune": "TN", "dead": "T", "part": "TTN", "text": "T", "told": "R"}
        form = forms.get(parts[0])
        if form is None or len(parts) != 1 + len(form) or not all(is_name(name) for name in parts[1:]):
            return "what"
        for letter, name in zip(form, parts[1:]):
            if letter == "T" and name not in templates or letter == "R" and name not in trees:
                return "unknown " + name
        try:
            return self.done(parts, templates, trees)
        except BadTree:
            return "outside"
        except TooMany:
            return "many"

    def done(self, parts, templates, trees):
        word, name = parts[:2]
        if word == "told":
            return tree_text(self.trees[1], trees[name])
        template = templates[name]
        if word == "fill":
            return "> " + filled(self.trees, template, trees[parts[2]])
        if word == "plain":
            return self.keep(0, parts[2], plain(self.trees, template))
        if word == "prune":
            return self.keep(0, parts[2], pruned(self.trees, template))
        if word == "dead":
            return str(sum(tree is None for _, tree in coverage(self.trees, template)))
        if word == "text":
            return template_text(self.trees, template)
        for many in range(1, 8):
            for tree in trees_of(self.trees[1], many):
                if is_in_set(self.trees, tree):
                    if filled(self.trees, template, tree) != filled(self.trees, templates[parts[2]], tree):
                        return self.keep(1, parts[3], tree)
        return "same"


class Answers(Case):
    def says(self, desk, *rows):
        for row, answer in rows:
            self.assertEqual(desk.say(row), answer, row)

    def test_by_hand(self):
        desk = Desk(PAIRS)
        self.assertEqual(desk.kept(), ({}, {}))
        self.says(desk, ("let list " + TEXT, "kept"), ("text list", TEXT), ("tree t p(e,p(n,p(n,e)))", "kept"), ("told t", "p(e,p(n,p(n,e)))"),
                  ("fill list t", "> aba"), ("tree u p(e,e)", "kept"), ("fill list u", "> c"), ("tree v n", "kept"), ("fill list v", "outside"),
                  ("plain list other", "kept"), ("part list other w", "same"), ("dead list", "0"),
                  ("let none e: \nn: \np: ", "kept"), ("part list none w", "kept"), ("told w", "p(e,e)"), ("dead none", "2"))
        self.assertEqual(desk.kept()[0]["list"], LIST)
        self.assertEqual(desk.kept()[0]["other"], plain(PAIRS, LIST))
        self.assertEqual(desk.kept()[1], {"t": ("p", E, ("p", N, ("p", N, E))), "u": ("p", E, E), "v": N, "w": ("p", E, E)})
        self.assertEqual([list(held) for held in desk.kept()], [["list", "none", "other"], ["t", "u", "v", "w"]])

    def test_what(self):
        desk = Desk(PAIRS)
        desk.say("let t " + TEXT)
        desk.say("tree t p(e,e)")
        wrong = ODD + ("", " ", "undo ", " undo", "Undo", "undo t", "let", "let ", "let t", "let  t e: ", "let T e: ", "let if e: ", "let t9 e: ", "let abcdefghi e: ",
                       "tree", "tree t", "tree  e", "tree call e", "fill", "fill t", "fill t ", "fill  t", "fill t t ", "fill t t t", "fill t  t", "fill T t", "fill t else",
                       "plain t", "plain t t t", "prune t", "prune t ", "prune t in", "dead", "dead ", "dead t t", "dead t\n", "dead\tt", "part t t", "part t t t t", "part t t end",
                       "text", "text ", "text t t", "told", "told t t", "told on", "lets t e", "kept", "fill\nt t", "FILL t t", " fill t t", "fill t t\n", b"undo", ("undo",), ["undo"])
        for row in wrong:
            self.assertEqual(desk.say(row), "what", repr(row))
        for word in KEPT:
            self.assertEqual(desk.say("dead " + word), "what")
        self.assertEqual(desk.kept(), ({"t": LIST}, {"t": ("p", E, E)}))
        self.says(desk, ("undo", "undone"), ("undo", "undone"), ("undo", "nothing"))

    def test_wrong(self):
        desk = Desk(PAIRS)
        self.says(desk, ("let t ", "wrong 0"), ("let t  " + TEXT, "wrong 0"), ("let t " + TEXT[:-1], f"wrong {len(TEXT) - 1}"), ("let t " + TEXT + " ", f"wrong {len(TEXT)}"),
                  ("let t e: {call 0 on 0}", "wrong 3"), ("tree t ", "wrong 0"), ("tree t p(e)", "wrong 3"), ("tree t e ", "wrong 1"), ("tree t  e", "wrong 0"), ("tree t p(e, e)", "wrong 4"),
                  ("let t e", "wrong 1"), ("tree t what", "wrong 0"), ("tree t\te", "what"), ("tree abcdefgh e", "kept"))
        self.assertEqual(desk.kept(), ({}, {"abcdefgh": E}))

    def test_unknown(self):
        desk = Desk(PAIRS)
        self.says(desk, ("let a " + TEXT, "kept"), ("tree b p(e,e)", "kept"), ("fill b b", "unknown b"), ("fill a a", "unknown a"), ("fill b a", "unknown b"), ("fill x y", "unknown x"),
                  ("plain b c", "unknown b"), ("prune b b", "unknown b"), ("dead b", "unknown b"), ("part a b c", "unknown b"), ("part b a c", "unknown b"), ("part c b a", "unknown c"),
                  ("text b", "unknown b"), ("told a", "unknown a"), ("part a a b", "same"), ("told b", "p(e,e)"))
        # The first name counts, and it counts ahead of what comes of the others.
        self.says(desk, ("fill a c", "unknown c"), ("tree c n", "kept"), ("fill c c", "unknown c"))

    def test_names_kept_anew(self):
        desk = Desk(PAIRS)
        self.says(desk, ("tree t e", "kept"), ("tree t n", "kept"), ("told t", "n"), ("undo", "undone"), ("told t", "e"), ("undo", "undone"), ("told t", "unknown t"), ("undo", "nothing"),
                  ("let t " + TEXT, "kept"), ("plain t t", "kept"), ("plain t t", "kept"))
        self.assertEqual(desk.kept()[0], {"t": plain(PAIRS, LIST)})
        self.says(desk, ("undo", "undone"), ("undo", "undone"), ("text t", TEXT), ("tree t p(n,n)", "kept"), ("part t t t", "same"), ("undo", "undone"), ("undo", "undone"))
        self.assertEqual(desk.kept(), ({}, {}))

    def test_undo_after_each_row(self):
        desk = Desk(PAIRS)
        none = "e: \nn: \np: "
        rows = ("let a " + TEXT, "tree a p(e,e)", "let b " + none, "plain a c", "prune a d", "part a b e", "let a " + none, "tree a n", "plain b b", "prune b c", "part d b a")
        befores = []
        for row in rows:
            befores.append(desk.kept())
            self.assertEqual(desk.say(row), "kept", row)
            # What is answered otherwise is not taken back.
            self.says(desk, ("text c", desk.say("text c")), ("dead b", desk.say("dead b")), ("let a x", "wrong 0"), ("what", "what"), ("told z", "unknown z"))
        for before in reversed(befores):
            self.assertEqual(desk.say("undo"), "undone")
            self.assertEqual(desk.kept(), before)
        self.assertEqual(desk.say("undo"), "nothing")

    def test_many(self):
        desk = Desk(PAIRS)
        tens = "e: \nn: " + "a" * 2000 + "\np: {call 0 on 0}{call 0 on 1}"
        self.says(desk, ("let a " + tens, "kept"), ("tree five p(n,p(n,p(n,p(n,p(n,e)))))", "kept"), ("tree six p(n,p(n,p(n,p(n,p(n,n)))))", "kept"),
                  ("fill a five", "> " + "a" * 10000), ("fill a six", "many"), ("part a a b", "same"))
        hundreds = tens[:-1] + "}{call 0 on 1}{call 0 on 1}"
        self.says(desk, ("let b " + hundreds, "kept"), ("let c " + hundreds + "a", "kept"), ("part b b x", "many"), ("part b c x", "kept"), ("told x", "p(e,e)"),
                  ("part a b x", "kept"), ("told x", "p(e,n)"))
        # The same of small trees, too long for a greater one, whichever of both writes it.
        self.says(desk, ("let d " + tens.replace("{call 0 on 0}{call 0 on 1}", "{if 1 in 2}" + "{call 0 on 0}" * 6 + "{else}{end}"), "kept"),
                  ("let e " + tens.replace("{call 0 on 0}{call 0 on 1}", "{if 1 in 2}{if 0 in 1}a{else}{end}{else}{end}"), "kept"), ("part d e x", "many"), ("part e d x", "many"))
        fors = "".join("{for p in 1 use 0 with - else %s}" % ("abc"[number % 3] * (1 + number // 3)) for number in range(7))
        self.says(desk, ("let f e: \nn: \np: " + fors, "kept"), ("plain f g", "many"), ("dead f", "0"), ("prune f g", "kept"))

    def test_many_trees(self):
        kinds = (("a", 0), ("b", 0), ("c", 0), ("d", 0), ("e", 3))
        trees = set_of(kinds, 1, lambda name, states: 0, (0,))
        desk = Desk(trees)
        none = "a: \nb: \nc: \nd: \ne: "
        # 4 trees of 1 node, 64 of 4, and 3072 of 7.
        self.says(desk, ("let a " + none, "kept"), ("let b " + none + "{call 0 on 0}", "kept"), ("part a b x", "many"), ("let c " + none + "a", "kept"), ("part a c x", "kept"), ("told x", "e(a,a,a)"))

    def test_far_trees(self):
        # A tree that comes to a body has more than 400 nodes, or more than 60 levels.
        far = set_of(ES, 60, lambda name, states: min(59, states[0] + 1) if states else 0, (59,))
        desk = Desk(far)
        self.says(desk, ("let a e: \ns: {call 0 on 0}", "kept"), ("dead a", "0"), ("prune a b", "kept"), ("let a e: \ns: {if 0 in 59}a{else}{call 0 on 0}{end}", "kept"), ("dead a", "many"),
                  ("prune a b", "many"), ("part a a b", "same"), ("tree t " + tree_text(ES, comb(59)), "kept"), ("fill a t", "> "), ("tree t s(e)", "kept"), ("fill a t", "outside"))

    def test_dead_and_pruned(self):
        desk = Desk(PAIRS)
        text = "e: b\nn: a\np: {if 0 in 0,1,2}{call 0 on 0}{else}c{end}"
        self.says(desk, ("let a " + text, "kept"), ("dead a", "1"), ("prune a b", "kept"), ("text b", "e: b\nn: a\np: {call 0 on 0}"), ("dead b", "0"), ("part a b c", "same"))

    def test_errors(self):
        for thing in ODD:
            self.raises(BadSet, Desk, thing)
        self.assertEqual(Desk(trees=PAIRS).say(row="undo"), "nothing")

    def test_what_is_told_may_be_changed(self):
        desk = Desk(PAIRS)
        desk.say("let a " + TEXT)
        told = desk.kept()
        told[0]["b"] = told[0].pop("a")
        told[1]["c"] = E
        self.assertEqual(desk.kept(), ({"a": LIST}, {}))
        before = desk.kept()
        desk.say("tree c e")
        self.assertEqual(before, ({"a": LIST}, {}))


class Sessions(Case):
    def test_whole_sessions(self):
        choose = chance(1)
        answers = set()
        for number in range(60):
            trees = choose.choice((PAIRS, PAIRS[:4] + ((0, 1, 2),), set_of(EF, 2, lambda name, states: choose.randrange(2), (0, 1))))
            kinds = trees[1]
            desk, plain_desk = Desk(trees), PlainDesk(trees)
            few = every_tree(kinds, 5)
            for _ in range(40):
                row = self.random_row(choose, trees, few)
                answer = plain_desk.say(row)
                self.assertEqual(desk.say(row), answer, row)
                self.assertEqual(desk.kept(), plain_desk.kept())
                self.assertTrue(all(list(held) == sorted(held) for held in desk.kept()))
                self.assertTrue(all(is_template(trees, template) for template in desk.kept()[0].values()))
                answers.add(answer.split(" ")[0] if answer[:1] != ">" else ">")
            while plain_desk.say("undo") == "undone":
                self.assertEqual(desk.say("undo"), "undone")
                self.assertEqual(desk.kept(), plain_desk.kept())
            self.assertEqual(desk.say("undo"), "nothing")
            self.assertEqual(desk.kept(), ({}, {}))
        self.assertLessEqual({"kept", "what", "wrong", "unknown", "undone", "nothing", "same", ">", "many"}, answers)

    def random_row(self, choose, trees, few):
        def name():
            return choose.choice("abc")
        word = choose.choice(("let", "let", "let", "tree", "tree", "fill", "fill", "plain", "dead", "prune", "part", "part", "text", "told", "undo", "odd"))
        if word == "let":
            text = template_text(trees, random_template(choose, trees, choose.randint(1, 2), 1))
            return f"let {name()} {text[choose.random() < 0.1:]}"
        if word == "tree":
            return f"tree {name()} {tree_text(trees[1], choose.choice(few))}" + ("," if choose.random() < 0.1 else "")
        if word == "odd":
            return choose.choice(("let a", "fill a b ", "", None, "part a b", "text if", 5))
        many = {"fill": 2, "plain": 2, "prune": 2, "part": 3, "undo": 0}.get(word, 1)
        return " ".join([word] + [name() for _ in range(many)])

    def test_part_by_filled(self):
        choose = chance(2)
        for _ in range(40):
            one, other = [random_template(choose, PAIRS, 1, 1) for _ in range(2)]
            desk = Desk(PAIRS)
            desk.say("let a " + template_text(PAIRS, one))
            desk.say("let b " + template_text(PAIRS, other))
            parting = [tree for tree in every_tree(PAIRS[1], 7) if tree[0] == "p" and plain_filled(PAIRS, one, tree) != plain_filled(PAIRS, other, tree)]
            self.assertEqual(desk.say("part a b x"), "kept" if parting else "same")
            self.assertEqual(desk.kept()[1], {"x": parting[0]} if parting else {})

    def test_part_is_soon(self):
        kinds = (("a", 0), ("b", 0), ("f", 2), ("g", 1))
        trees = set_of(kinds, 3, lambda name, states: sum(states) % 3, (0, 1, 2))
        desk = Desk(trees)
        body = "{if 0 in 0}{for f in 0 use 1 with ab else c}{else}{call 0 on 0}{call 1 on 0}{end}"
        text = f"a: {'a' * 300}\nb: b\nf: {body}{{call 0 on 1}}\ng: {body}\n\na: \nb: {'c' * 200}\nf: {{call 0 on 0}}\ng: "
        self.assertEqual(desk.say("let a " + text), "kept")
        self.assertEqual(desk.say("let b " + text), "kept")
        self.assertIn(self.within(20, desk.say, "part a b x"), ("same", "many"))


class Bounds(Case):
    def test_texts_at_their_bounds(self):
        # Twelve ifs, 60 and 100 items, trees of 400 nodes and 60 levels, by the desk.
        everything = set_of(EF, 1, lambda name, states: 0, (0,))
        desk = Desk(everything)

        def text(body):
            return "e: \nf: " + body
        twelve = "{if 0 in 0}" * 12 + "a" + "{else}{end}" * 12
        for body, answer in ((twelve, "kept"), ("{if 0 in 0}" + twelve + "{else}{end}", f"wrong {7 + 12 * 11 + 1}"), ("{call 0 on 0}" * 60, "kept"), ("{call 0 on 0}" * 61, f"wrong {7 + 60 * 13}"),
                             ("a" * 2400, "kept"), ("a" * 2401, "wrong 2407")):
            self.assertEqual(desk.say("let a " + text(body)), answer)
        self.assertEqual(desk.say("let a e: " + "a" * 2400 + "\nf: " + "a" * 1600), "kept")
        self.assertEqual(desk.say("let a e: " + "a" * 2400 + "\nf: " + "a" * 1601), "wrong 4007")
        deep = Desk(set_of(ES, 1, lambda name, states: 0, (0,)))
        self.assertEqual(deep.say("tree a " + tree_text(ES, comb(59))), "kept")
        self.assertEqual(deep.say("tree a s(" + tree_text(ES, comb(59)) + ")"), "wrong 118")
        self.assertTrue(is_template(everything, nested(12) and (((), nested(12)),)))

    def test_what_counts_first(self):
        desk = Desk(PAIRS)
        with mock.patch("samewriting.desk.plain", side_effect=TooMany(8)):
            desk.say("let a " + template_text(PAIRS, (((), (say("a"),), (along(0, 0, "a", "", "p"), when(1, (0,), (to(0, 0),)))),)))
            self.assertEqual(desk.say("plain b c"), "unknown b")
            self.assertEqual(desk.say("plain a c"), "many")
            self.assertEqual(desk.say("plain a C"), "what")
            self.assertEqual(desk.say("plain a"), "what")
        self.assertEqual(desk.say("undo"), "undone")
        self.assertEqual(desk.say("undo"), "nothing")
