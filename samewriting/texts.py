"""The texts of templates: each template has one, which is read as it."""

from samewriting.errors import BadText
from samewriting.pieces import MOST_ITEMS, MOST_SAID
from samewriting.reading import Cursor
from samewriting.sets import check_set
from samewriting.templates import MOST_BETWEEN, MOST_BLOCKS, MOST_IFS, MOST_IN_ALL, check_template

_LETTERS = "abc"
_NONE = "-"
_CALL = "{call "
_IF = "{if "
_FOR = "{for "
_ELSE = "{else}"
_END = "{end}"


def template_text(trees, template):
    """The text of a template."""
    check_set(trees)
    check_template(trees, template)
    return "\n\n".join([_block_text(trees[1], block) for block in template])


def _block_text(kinds, block):
    return "\n".join([pair[0] + ": " + _body_text(body) for pair, body in zip(kinds, block)])


def _body_text(body):
    return "".join([_item_text(item) for item in body])


def _item_text(item):
    if item[0] == "say":
        return item[1]
    if item[0] == "call":
        return f"{_CALL}{item[1]} on {item[2]}" + "}"
    if item[0] == "if":
        states = ",".join([str(state) for state in item[2]])
        return f"{_IF}{item[1]} in {states}" + "}" + _body_text(item[3]) + _ELSE + _body_text(item[4]) + _END
    between, instead = [letters or _NONE for letters in item[4:]]
    return f"{_FOR}{item[1]} in {item[2]} use {item[3]} with {between} else {instead}" + "}"


def template_of(trees, text):
    """The template with this text; BadText behind the longest beginning with which some template's text begins."""
    check_set(trees)
    if not isinstance(text, str):
        raise BadText(0)
    return TemplateReader(trees, text).read()


class TemplateReader:
    """Reads a template. Whatever is begun can be ended, by empty bodies and blocks, if no bound is passed so far."""

    def __init__(self, trees, text):
        self.trees = trees
        self.cursor = Cursor(text)
        self.looped = [name for name, rank in trees[1] if rank == 2]
        self.so_far = 0
        self.highest = 0

    def read(self):
        """The template."""
        blocks = [self._block()]
        while not self.cursor.is_done():
            if len(blocks) == MOST_BLOCKS:
                self.cursor.refuse()
            self.cursor.take_word("\n\n")
            blocks.append(self._block())
        # A text that ends too early, before a block that is called, can go on.
        if self.highest >= len(blocks):
            self.cursor.refuse()
        return tuple(blocks)

    def _block(self):
        bodies = []
        for name, rank in self.trees[1]:
            self.cursor.take_word("\n" + name + ": " if bodies else name + ": ")
            bodies.append(self._body(rank, 0, ""))
        return tuple(bodies)

    def _body(self, rank, ifs, end):
        """The items up to the word at the end, which is read too; none stands at the end of a whole body."""
        found = []
        while True:
            has_place = self.so_far < MOST_IN_ALL and len(found) < MOST_ITEMS
            if has_place and self.cursor.sees(_LETTERS):
                self.so_far += 1
                found.append(("say", self._letters(MOST_SAID)))
            elif end or self.cursor.sees("{"):
                words = self._beginnings(rank, ifs) if has_place else []
                word = (words + [end])[self.cursor.take_one_of(words + [end] if end else words)]
                if word == end:
                    return tuple(found)
                self.so_far += 1
                found.append(self._item(word, rank, ifs))
            else:
                return tuple(found)

    def _beginnings(self, rank, ifs):
        """With what items may begin that are no says."""
        if rank == 0:
            return []
        told = [_CALL]
        if ifs < MOST_IFS:
            told.append(_IF)
        if self.looped:
            told.append(_FOR)
        return told

    def _item(self, word, rank, ifs):
        """The item that begins with a word, read already."""
        if word == _CALL:
            block = self._block_number(" on ")
            return ("call", block, self._number(rank, "}"))
        if word == _IF:
            child = self._number(rank, " in ")
            states = self._states()
            body = self._body(rank, ifs + 1, _ELSE)
            return ("if", child, states, body, self._body(rank, ifs + 1, _END))
        name = self.looped[self.cursor.take_one_of([own + " in " for own in self.looped])]
        child = self._number(rank, " use ")
        block = self._block_number(" with ")
        between = self._few_letters(" else ")
        return ("for", name, child, block, between, self._few_letters("}"))

    def _number(self, many, behind):
        """A number below many, and the word behind it."""
        return self.cursor.take_one_of([str(number) + behind for number in range(many)])

    def _block_number(self, behind):
        block = self._number(MOST_BLOCKS, behind)
        self.highest = max(self.highest, block)
        return block

    def _states(self):
        found = []
        while True:
            low = found[-1] + 1 if found else 0
            numbers = list(range(low, self.trees[2]))
            # Behind the greatest state no further one can come.
            words = [str(state) + "}" for state in numbers] + [str(state) + "," for state in numbers[:-1]]
            place = self.cursor.take_one_of(words)
            if place < len(numbers):
                return tuple(found + [numbers[place]])
            found.append(numbers[place - len(numbers)])

    def _letters(self, most):
        """The letters that come next, at most so many."""
        found = []
        while len(found) < most and self.cursor.sees(_LETTERS):
            found.append(self.cursor.take())
        return "".join(found)

    def _few_letters(self, behind):
        """A few letters, or the sign for none, and the word behind them."""
        if self.cursor.sees(_NONE):
            self.cursor.take()
            told = ""
        else:
            told = self._letters(MOST_BETWEEN)
            if not told:
                self.cursor.refuse()
        self.cursor.take_word(behind)
        return told
