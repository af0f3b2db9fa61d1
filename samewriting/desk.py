"""A desk: it keeps templates and trees by names, and answers rows of words."""

from samewriting.coverage import coverage, pruned
from samewriting.errors import BadTree, BadText, TooMany
from samewriting.filling import Filling, filled
from samewriting.plainly import plain
from samewriting.sets import check_set
from samewriting.texts import template_of, template_text
from samewriting.trees import MOST_LISTED, counts_to, trees_of_sizes
from samewriting.treetexts import tree_of, tree_text
from samewriting.words import is_name

# What the names behind a word keep: a template, a tree, or what is new.
_NAMED = {"fill": ("template", "tree"), "plain": ("template", "new"), "dead": ("template",),
          "prune": ("template", "new"), "part": ("template", "template", "new"), "text": ("template",),
          "told": ("tree",)}
_KEPT = "kept"
_WHAT = "what"
_MOST_PARTING = 7


class Desk:
    """A desk for a set of trees."""

    def __init__(self, trees):
        check_set(trees)
        self._trees = trees
        self._held = {"template": {}, "tree": {}}
        # What each row that was answered "kept" took the place of.
        self._before = []

    def say(self, row):
        """The answer to a row, which may be any value."""
        if not isinstance(row, str):
            return _WHAT
        word, _, rest = row.partition(" ")
        if row == "undo":
            return self._undone()
        if word == "let" or word == "tree":
            return self._read(word, rest)
        if word in _NAMED:
            return self._answer(word, rest.split(" "))
        return _WHAT

    def kept(self):
        """The templates and the trees by their names, ascending."""
        return self._in_order("template"), self._in_order("tree")

    def _in_order(self, what):
        named = self._held[what]
        return {name: named[name] for name in sorted(named)}

    def _undone(self):
        if not self._before:
            return "nothing"
        what, name, before = self._before.pop()
        if before is None:
            del self._held[what][name]
        else:
            self._held[what][name] = before
        return "undone"

    def _keep(self, what, name, thing):
        named = self._held[what]
        self._before.append((what, name, named.get(name)))
        named[name] = thing
        return _KEPT

    def _read(self, word, rest):
        """Keep what a text tells under a name."""
        name, blank, text = rest.partition(" ")
        if not is_name(name) or not blank:
            return _WHAT
        try:
            if word == "tree":
                return self._keep("tree", name, tree_of(self._trees[1], text))
            return self._keep("template", name, template_of(self._trees, text))
        except BadText as error:
            return "wrong " + str(error.at)

    def _answer(self, word, names):
        """The answer to a word and names."""
        wanted = _NAMED[word]
        if len(names) != len(wanted) or not all([is_name(name) for name in names]):
            return _WHAT
        things = []
        for what, name in zip(wanted, names):
            if what != "new" and name not in self._held[what]:
                return "unknown " + name
            things.append(name if what == "new" else self._held[what][name])
        try:
            return self._done(word, things)
        except BadTree:
            return "outside"
        except TooMany:
            return "many"

    def _done(self, word, things):
        """What the word asks for, of what the names keep; new names stand for themselves."""
        first = things[0]
        if word == "fill":
            return "> " + filled(self._trees, first, things[1])
        if word == "text":
            return template_text(self._trees, first)
        if word == "told":
            return tree_text(self._trees[1], first)
        if word == "dead":
            return str(len([tree for _, tree in coverage(self._trees, first) if tree is None]))
        if word == "part":
            tree = _least_parting(self._trees, first, things[1])
            return "same" if tree is None else self._keep("tree", things[2], tree)
        made = plain(self._trees, first) if word == "plain" else pruned(self._trees, first)
        return self._keep("template", things[1], made)


def _least_parting(trees, one, other):
    """The first small tree in the set of which two templates write unlike texts, None if there is none."""
    kinds = trees[1]
    counts = counts_to(kinds, _MOST_PARTING)
    sizes = [nodes for nodes in range(1, _MOST_PARTING + 1) if max(counts[:nodes + 1]) <= MOST_LISTED]
    fillings = [Filling(trees, template) for template in (one, other)]
    for number, (_, tree, kind, kids) in enumerate(trees_of_sizes(kinds, sizes)):
        for filling in fillings:
            filling.take(kind, kids)
        if fillings[0].is_in(number):
            texts = [filling.text_of(number) for filling in fillings]
            if texts[0] != texts[1]:
                return tree
    if len(sizes) < _MOST_PARTING:
        raise TooMany(MOST_LISTED)
    return None
