"""Templates without for: each for becomes a call of blocks that go along."""

from samewriting.errors import TooMany
from samewriting.sets import check_set
from samewriting.templates import MOST_BLOCKS, MOST_IN_ALL, check_template, items_of


def plain(trees, template):
    """A template without for that is filled likewise."""
    check_set(trees)
    check_template(trees, template)
    return plain_of(trees[1], template)


def plain_of(kinds, template):
    """As plain, of what surely is a template of a set of these kinds."""
    told = blocks_without_for(kinds, template)
    if len(told) > MOST_BLOCKS:
        raise TooMany(MOST_BLOCKS)
    if items_of(told) > MOST_IN_ALL:
        raise TooMany(MOST_IN_ALL)
    return told


def blocks_without_for(kinds, template):
    """The blocks of plain, however many blocks and items they are."""
    loops = Loops(len(template))
    for block in template:
        for body in block:
            loops.find_in(body)
    blocks = [tuple([loops.without_for(body) for body in block]) for block in template]
    return tuple(blocks + loops.blocks(kinds))


class Loops:
    """The blocks for loops, numbered from a number on.

    Each is kept as (name, block, say, between, instead): for the kind name it says `say` ahead of
    the item, and then goes on with the rest; for the others it says `instead`.
    """

    def __init__(self, begin):
        self.begin = begin
        self.numbers = {}

    def in_all(self):
        """How many blocks there are in all."""
        return self.begin + len(self.numbers)

    def find_in(self, body):
        """Number the loops of the fors in a body, in order."""
        for item in body:
            if item[0] == "for":
                self._number(_first_of(item))
                self._number(_rest_of(item[1], item[3], item[4]))
            elif item[0] == "if":
                self.find_in(item[3])
                self.find_in(item[4])

    def _number(self, loop):
        if loop not in self.numbers:
            self.numbers[loop] = self.in_all()

    def without_for(self, body):
        """The body with each for made a call of its first block."""
        told = []
        for item in body:
            if item[0] == "for":
                told.append(("call", self.numbers[_first_of(item)], item[2]))
            elif item[0] == "if":
                told.append(item[:3] + (self.without_for(item[3]), self.without_for(item[4])))
            else:
                told.append(item)
        return tuple(told)

    def blocks(self, kinds):
        """The blocks of the loops, in order."""
        return [tuple([self._body(loop, kind) for kind, _ in kinds]) for loop in self.numbers]

    def _body(self, loop, kind):
        name, block, ahead, between, instead = loop
        if kind != name:
            return _said(instead)
        rest = self.numbers[_rest_of(name, block, between)]
        return _said(ahead) + (("call", block, 0), ("call", rest, 1))


def _first_of(item):
    """The first block of a for."""
    return item[1], item[3], "", item[4], item[5]


def _rest_of(name, block, between):
    # The rest with nothing between is the first block with nothing between and nothing instead.
    return name, block, between, between, ""


def _said(letters):
    return (("say", letters),) if letters else ()
