"""What holds over all modules: parameters by position and by name, what is told, and roads that lead to one end."""

import inspect
from importlib import import_module

from helpers import E, EF, ES, Case, chance, comb, every_tree, exchanged, one_state, poly, random_kinds, random_set
from shortly import written_out
from templating import LIST, PAIRS, random_reader, random_template
from test_forms import HAND as NUMBERS, ONE_ROOM
from test_interface import CLASSES, INTERFACE
from test_making import TURNED
from test_readers import HAND as READER
from test_shorts import HAND as SHORT
from test_tables import HAND as TABLE
from samewriting.alike import same_templates
from samewriting.codes import same_texts
from samewriting.compiling import as_template, writer_of
from samewriting.desk import Desk
from samewriting.edits import Keeper
from samewriting.errors import TooMany
from samewriting.evens import same_even
from samewriting.filling import filled
from samewriting.forms import form
from samewriting.making import folded, mirrored
from samewriting.maps import mapped
from samewriting.readers import written
from samewriting.sums import is_paper
from samewriting.tables import table_from
from samewriting.texts import template_of, template_text
from samewriting.tidying import merged
from samewriting.turning import as_reader, as_writer
from samewriting.writers import called
from samewriting.writings import writing

X, Y = (0, 0), (0, 1)
T = ("f", E, E)
EVERY = one_state(EF)
WORDS = ("words", ((1, 1, 1), (0, 0, 0)), (0,))
SCRIBE = ("scribe", (((0, "ab"), (0, "b"), (0, "c")),), ("",))
POLY = poly((1, X, Y), (-1,))
SOME = (POLY, poly((1, X, X)))
WRITER = as_writer(READER)

# What is passed for each parameter, unless a function wants something else.
PASSED = {"kinds": EF, "tree": T, "path": (0,), "other": None, "many": 3, "trees": EVERY, "thing": None, "polynomial": POLY, "number": 3, "worths": ((X, 2), (Y, 5)), "numbers": NUMBERS,
          "width": 2, "rows": ((1, 2), (0, 3)), "row": (1, 1), "several": SOME, "degree": 1, "size": 3, "reader": READER, "text": "aba", "writer": WRITER, "state": 0, "template": (((), ()),),
          "some": SOME, "variables": (X, Y), "points": ((0, 0), (1, 1)), "words": WORDS, "scribe": SCRIBE, "short": SHORT, "index": 1, "begin": 1, "end": 4, "word": "ab", "others": EF,
          "frames": TURNED, "texts": ("a", "bc", ""), "table": TABLE, "one": None}
BOTH = {"joins": (EVERY, EVERY), "polynomials": (POLY, SOME[1]), "sides": (NUMBERS, ONE_ROOM), "evens": (NUMBERS, ONE_ROOM), "sums": (NUMBERS, ONE_ROOM), "sameness": (NUMBERS, ONE_ROOM),
        "codes": (READER, READER), "alike": ((((), ()),), (((), ()),)), "dividing": SOME, "wordmachines": (WORDS, WORDS), "scribes": (SCRIBE, SCRIBE), "shorts": (SHORT, SHORT), "making": (READER, READER),
        "origins": (READER, READER), "unlike": (SHORT, SHORT), "writings": (READER, READER), "trees": (None, E), "edits": (None, E)}
OWN = {("numbers", "worths"): {"tree": comb(2)}, ("numbers", "number_told"): {"tree": comb(2)}, ("numbers", "kept"): {"trees": one_state(ES)}, ("evens", "shares"): {"tree": comb(2)},
       ("forms", "make_up"): {"tree": comb(2)}, ("polynomials", "put_in"): {"worths": ((X, POLY),)}, ("codes", "decoded"): {"number": 27}, ("texts", "template_of"): {"text": "e: \nf: "},
       ("treetexts", "tree_of"): {"text": "f(e,e)"}, ("origins", "bared"): {"tree": ("fq", E, E)}, ("codes", "same_texts"): {"size": 4}, ("codes", "same_thin"): None}


def passed_to(module, name, parameters):
    own = OWN.get((module, name), {})
    if own is None:
        return None
    one, other = BOTH.get(module, (None, None))
    told = dict(PASSED, one=one, other=other)
    return {parameter: own.get(parameter, told[parameter]) for parameter in parameters}


def is_plain(told):
    """Whether it is made of tuples, strings and numbers alone: nothing that can be changed."""
    if isinstance(told, tuple):
        return all(is_plain(item) for item in told)
    return told is None or isinstance(told, (str, int))


class Passing(Case):
    def test_each_function(self):
        done = 0
        for module, functions in INTERFACE:
            held = import_module("samewriting." + module)
            for entry in functions.split():
                name = entry.split("(")[0]
                function = getattr(held, name)
                passed = passed_to(module, name, list(inspect.signature(function).parameters))
                if passed is None:
                    continue
                # By position, by name in whatever sequence, and by both.
                told = function(*passed.values())
                self.assertEqual(function(**dict(reversed(list(passed.items())))), told, name)
                first = list(passed)[0]
                self.assertEqual(function(passed[first], **{key: passed[key] for key in list(passed)[1:]}), told, name)
                self.assertTrue(is_plain(told), name)
                done += 1
        self.assertEqual(done, sum(len(functions.split()) for _, functions in INTERFACE) - 1)

    def test_classes(self):
        keeper = Keeper(tree=T, reader=READER)
        self.assertEqual(keeper.put(other=E, path=(1,)), 1)
        for told in (keeper.tree(), keeper.text(), keeper.kept(path=()), keeper.undo()):
            self.assertTrue(is_plain(told))
        desk = Desk(trees=EVERY)
        self.assertEqual(desk.say(row="tree a e"), "kept")
        templates, trees = desk.kept()
        self.assertEqual((templates, trees), ({}, {"a": E}))
        self.assertEqual([made.split("(")[0] for _, made, _ in CLASSES], ["Desk", "Keeper"])

    def test_what_is_open_is_the_same_at_each_call(self):
        for module, functions in INTERFACE:
            held = import_module("samewriting." + module)
            for entry in functions.split():
                name = entry.split("(")[0]
                passed = passed_to(module, name, list(inspect.signature(getattr(held, name)).parameters))
                if passed is not None and module in ("bases", "belonging", "copying", "shorts", "known", "pins", "writings", "spaces"):
                    self.assertEqual(getattr(held, name)(**passed), getattr(held, name)(**passed))


class Roads(Case):
    """Roads of the whole: what is told on one of them is told on the other ones."""

    def test_templates_writers_readers_shorts(self):
        choose = chance(1)
        done = 0
        for _ in range(60):
            kinds = random_kinds(choose)
            trees = random_set(choose, kinds, 2)
            trees = trees[:4] + (tuple(range(trees[2])),)
            template = template_of(trees, template_text(trees, random_template(choose, trees, 2, 1)))
            try:
                writer = writer_of(trees, template)
                reader = as_reader(writer)
                again = as_template(writer)
            except TooMany:
                continue
            done += 1
            for tree in every_tree(kinds, 5)[:20]:
                text = filled(trees, template, tree)
                self.assertEqual(called(writer, 0, tree), text)
                self.assertEqual(written(reader, tree), text)
                self.assertEqual(written(merged(reader), tree), text)
                self.assertEqual(filled(trees, again, tree), text)
                self.assertEqual(written_out(writing(reader, table_from(kinds, tree))), text)
                self.assertEqual(Keeper(reader, tree).text(), text)
        self.assertGreater(done, 20)

    def test_same_or_parted(self):
        # Just one of both words; the tree parts them, the paper is taken.
        other = as_template(writer_of(PAIRS, LIST))
        word, paper = same_templates(PAIRS, LIST, other, 1, 5)
        self.assertEqual(word, "same")
        bent = exchanged(LIST, (0, 1, 0, 1), "b")
        word, tree = same_templates(PAIRS, LIST, bent, 1, 5)
        self.assertEqual(word, "parted")
        self.assertNotEqual(filled(PAIRS, LIST, tree), filled(PAIRS, bent, tree))
        word, paper = same_even(NUMBERS, ONE_ROOM)
        self.assertEqual((word, is_paper(NUMBERS, ONE_ROOM, paper)), ("same", True))
        self.assertEqual(form(NUMBERS), form(ONE_ROOM))

    def test_readers_made_and_compared(self):
        # What is mirrored twice, folded by the map that changes nothing, or turned to a writer and back is the same.
        choose = chance(2)
        seen = set()
        for _ in range(40):
            kinds = choose.choice((ES, EF))
            trees = random_set(choose, kinds, 2)
            reader = random_reader(choose, trees, 1, 2)
            every = one_state(kinds)
            nothing = tuple((name,) + tuple(range(rank)) for name, rank in kinds)
            for other in (mirrored(mirrored(reader)), folded(reader, kinds, nothing), merged(reader), as_reader(as_writer(reader))):
                try:
                    word = same_texts(reader, other, every, 1, 4)[0]
                except TooMany:
                    continue
                self.assertIn(word, ("same", "open"))
                seen.add(word)
            for tree in every_tree(kinds, 5)[:20]:
                self.assertEqual(mapped(kinds, kinds, nothing, tree), tree)
        self.assertIn("same", seen)
