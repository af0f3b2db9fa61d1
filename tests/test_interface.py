import ast
import inspect
import os
import unittest
from importlib import import_module

import samewriting

INTERFACE = (
    ("errors", ""), ("words", "is_name(thing)"),
    ("trees", "is_kinds(thing) is_tree(kinds,thing) size(kinds,tree) depth(kinds,tree) part(kinds,tree,path) "
              "with_part(kinds,tree,path,other) trees_of(kinds,many) count(kinds,many)"),
    ("sets", "is_set(thing) state_of(trees,tree) is_in(trees,tree) least_trees(trees) least_in(trees) in_order(trees,many) "
             "number_in(trees,many) is_finite(trees)"),
    ("joins", "contrary(trees) both(one,other) either(one,other) alone(kinds,tree) inside(one,other) least(trees)"),
    ("polynomials", "is_polynomial(thing) variables_of(polynomial) degree_of(polynomial) first_term(polynomial) plus(one,other) "
                    "times(one,other) scaled(polynomial,number) cleared(polynomial) put_in(polynomial,worths) "
                    "value_at(polynomial,worths)"),
    ("numbers", "is_numbers(thing) worths(numbers,tree) number_told(numbers,tree) kept(numbers,trees)"),
    ("sides", "met(one,other)"),
    ("spaces", "space_of(width,rows) is_stairs(width,thing) combination(width,rows,row) is_combination(width,rows,row,thing) "
               "across(width,rows)"),
    ("dividing", "divided(polynomial,several) overlap(one,other) is_basis(thing)"),
    ("sums", "is_paper(one,other,thing)"),
    ("evens", "is_even(numbers) basis(numbers) shares(numbers,tree) ties(numbers) same_even(one,other)"),
    ("readers", "is_reader(thing) rooms_at(reader,tree) lets_by(reader,tree) written(reader,tree) domain(reader)"),
    ("vanishing", "powers_to(variables,degree) equations_at(variables,points,degree)"),
    ("sameness", "equations_of(one,other,degree,size) sameness(one,other,degree,size)"),
    ("codes", "code(text) decoded(number) coded(reader) same_texts(one,other,trees,degree,size) same_thin(one,other,trees)"),
    ("templates", "is_template(trees,thing) items_in(trees,template)"), ("plainly", "plain(trees,template)"),
    ("writers", "is_writer(thing) called(writer,state,tree)"), ("compiling", "writer_of(trees,template) as_template(writer)"),
    ("turning", "as_writer(reader) as_reader(writer)"), ("alike", "same_templates(trees,one,other,degree,size)"),
    ("bases", "basis_of(some) shown(some) is_shown(some,thing)"),
    ("belonging", "belonging(some,polynomial) is_belonging(some,polynomial,thing) power_in(some,polynomial) staying(variables,some)"),
    ("wordmachines", "is_words(thing) row_behind(words,text) takes_text(words,text) effect(words,text) least_words(words) words_not(words) "
                     "words_both(one,other) just(text)"),
    ("scribes", "is_scribe(thing) scribed(scribe,text) one_behind(one,other) pulled(scribe,words)"),
    ("types", "signs(reader,words) within(reader,words) always(reader,words) is_answer(reader,words,thing)"),
    ("composing", "composed(reader,scribe)"), ("tidying", "tidied(reader) merged(reader)"),
    ("copying", "copies(reader) is_copies(reader,thing) most_copies(reader)"),
    ("coverage", "coverage(trees,template) pruned(trees,template)"),
    ("filling", "filled(trees,template,tree)"), ("texts", "template_text(trees,template) template_of(trees,text)"),
    ("treetexts", "tree_text(kinds,tree) tree_of(kinds,text)"), ("desk", ""),
    ("edits", "changed(reader,tree,path,other) stretch(reader,tree,path,other) around(reader,tree,path)"),
    ("forms", "form_trees(numbers) ranks(numbers) make_up(numbers,tree) form(numbers)"),
    ("shorts", "is_short(thing) length(short) tally(short) letter_at(short,index) stretch_of(short,begin,end) cut_out(short,begin,end) turned_about(short) "
               "behind(one,other) times_in(short,word) first_in(short,word)"),
    ("known", "parity_short(many) golden_short(many)"),
    ("maps", "is_map(kinds,others,thing) mapped(kinds,others,frames,tree) coming_into(kinds,frames,trees)"),
    ("making", "mirrored(reader) spelled(reader,texts) limited(trees,reader) joined(one,other) chosen(trees,one,other) folded(reader,kinds,frames)"),
    ("origins", "origins(reader,tree) marked_kinds(kinds) marked(reader) one_mark(kinds) bared(kinds,tree) same_origins(one,other,degree,size)"),
    ("pins", "pins(numbers)"), ("readings", "readings(reader,text) is_read(reader,text,thing)"),
    ("tables", "is_table(kinds,thing) size_told(kinds,table) depth_told(kinds,table) tree_told(kinds,table) table_from(kinds,tree) least_table(kinds,table) "
               "table_state(trees,table)"),
    ("unlike", "first_unlike(one,other) is_ahead(one,other)"),
    ("writings", "writing(reader,table) long_length(reader,table) long_tally(reader,table) writer_at(reader,table,index) first_unlike_of(one,other,table)"))

CLASSES = (("desk", "Desk(trees)", "say(row) kept()"), ("edits", "Keeper(reader,tree)", "put(path,other) undo() tree() text() kept(path)"))

FOLDER = os.path.dirname(samewriting.__file__)


class Interface(unittest.TestCase):
    def test_names_and_parameters(self):
        for module, functions in INTERFACE:
            held = import_module("samewriting." + module)
            for function in functions.split():
                name, parameters = function[:-1].split("(")
                told = getattr(held, name)
                self.assertEqual(told.__module__, held.__name__)
                self.assertEqual(",".join(inspect.signature(told).parameters), parameters, name)

    def test_classes(self):
        for module, made, methods in CLASSES:
            held = import_module("samewriting." + module)
            for place, function in enumerate([made] + methods.split()):
                name, parameters = function[:-1].split("(")
                if place == 0:
                    own = getattr(held, name)
                    self.assertEqual(own.__module__, held.__name__)
                    self.assertEqual(",".join(inspect.signature(own).parameters), parameters)
                else:
                    # Each method stands in the class itself.
                    self.assertEqual(",".join(list(inspect.signature(vars(own)[name]).parameters)[1:]), parameters, name)

    def test_the_whole_interface(self):
        # As the document lists it, where the document is at hand.
        document = os.path.join(os.path.dirname(FOLDER), "..", "shared", "DOC.md")
        if not os.path.exists(document):
            self.skipTest("no document")
        with open(document, encoding="utf-8") as held:
            rows = [row[len("- samewriting/"):].strip() for row in held if row.startswith("- samewriting/")]
        listed = [row.split(".py: ") for row in rows]
        self.assertEqual([module for module, _ in listed], [module for module, _ in INTERFACE])
        for (module, names), (_, functions) in zip(listed[1:], INTERFACE[1:]):
            own = [function.split("(")[0] for function in functions.split()]
            own.extend(made.split("(")[0] for place, made, _ in CLASSES if place == module)
            wanted = [name for name in names.rstrip(".").split(", ") if name != "KEPT"]
            self.assertEqual(sorted(own), sorted(wanted))

    def test_init_defines_nothing(self):
        with open(os.path.join(FOLDER, "__init__.py"), encoding="ascii") as held:
            told = ast.parse(held.read())
        self.assertEqual([node.__class__ for node in told.body], [ast.Expr])

    def test_modules_import_from_earlier_ones_alone(self):
        uses = {}
        for name in os.listdir(FOLDER):
            if name.endswith(".py"):
                with open(os.path.join(FOLDER, name), encoding="ascii") as held:
                    told = ast.parse(held.read())
                uses[name[:-3]] = [node.module.split(".")[1] for node in ast.walk(told) if isinstance(node, ast.ImportFrom)
                                   and node.module.startswith("samewriting.")]
        order = [module for module, _ in INTERFACE]
        for place, module in enumerate(order):
            found = list(uses[module])
            for used in found:
                found.extend(further for further in uses[used] if further not in found)
            for used in found:
                self.assertNotIn(used, order[place:], module)

    def test_sizes(self):
        for name in os.listdir(FOLDER):
            if name.endswith(".py"):
                with open(os.path.join(FOLDER, name), encoding="ascii") as held:
                    text = held.read()
                rows = text.splitlines()
                self.assertLess(len(rows), 400, name)
                self.assertTrue(all(len(row) <= 120 and "\t" not in row for row in rows), name)
                for node in ast.walk(ast.parse(text)):
                    if isinstance(node, ast.FunctionDef):
                        self.assertLessEqual(node.end_lineno - node.lineno + 1, 40, node.name)


if __name__ == "__main__":
    unittest.main()
