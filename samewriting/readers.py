"""Readers: they fold trees into texts, gathered from the leaves up."""

from samewriting.errors import BadReader, NotLetBy, TooMany
from samewriting.foldings import is_folding
from samewriting.joins import least_of
from samewriting.sets import states_in
from samewriting.trees import check_tree, listed
from samewriting.values import is_between, is_row, is_word
from samewriting.walks import place_of

MOST_LETTERS = 10000


def is_text(thing):
    """Whether any value is a string of letters a, b, c."""
    return isinstance(thing, str) and all([letter in "abc" for letter in thing])


def is_say(thing):
    """Whether any value is ("say", letters), 1 to 40 letters."""
    return is_row(thing, 2) and is_word(thing[0], "say") and is_text(thing[1]) and 1 <= len(thing[1]) <= 40


def _are_pieces(thing, rank, rooms):
    """Whether any value is pieces of so many children and rooms."""
    if not isinstance(thing, tuple) or len(thing) > 60:
        return False
    return all([is_say(item) or _is_room(item, rank, rooms) for item in thing])


def _is_room(thing, rank, rooms):
    if not is_row(thing, 3) or not is_word(thing[0], "room"):
        return False
    return is_between(thing[1], 0, rank - 1) and is_between(thing[2], 0, rooms - 1)


def is_reader(thing):
    """Whether any value is a reader."""
    return is_folding(thing, "reader", _are_pieces)


def check_reader(reader):
    """Raise BadReader unless this is a reader."""
    if not is_reader(reader):
        raise BadReader("no reader")


class Reading:
    """A tree read by a reader: its nodes, children first, with their states and the pieces of their rooms.

    How long texts get is told ahead of the texts: only those are made that come into what is asked for.
    """

    def __init__(self, reader, tree):
        self.nodes = listed(reader[1][1], tree)
        self.states = states_in(reader[1], self.nodes)
        self.end = reader[4][self.states[-1]]
        self.rows = []
        self.lengths = []
        for kind, kids in self.nodes:
            place = place_of(reader[1][2], [self.states[kid] for kid in kids])
            row = reader[3][kind][place]
            self.rows.append(row)
            self.lengths.append([self.length_of(pieces, kids) for pieces in row])

    def length_of(self, pieces, kids):
        """How many letters pieces have, the children being nodes that were told ahead."""
        told = 0
        for item in pieces:
            told += len(item[1]) if item[0] == "say" else self.lengths[kids[item[1]]][item[2]]
        return told

    def text_of(self, pieces, kids):
        """The text of pieces, which is not too long; so are then the texts of all rooms in it."""
        wanted = [[False for _ in row] for row in self.rows]
        _want(wanted, pieces, kids)
        for number in range(len(self.nodes) - 1, -1, -1):
            for room, is_wanted in enumerate(wanted[number]):
                if is_wanted:
                    _want(wanted, self.rows[number][room], self.nodes[number][1])
        texts = []
        for number, row in enumerate(self.rows):
            below = self.nodes[number][1]
            texts.append([_put_together(texts, told, below) if is_wanted else None
                          for told, is_wanted in zip(row, wanted[number])])
        return _put_together(texts, pieces, kids)


def _want(wanted, pieces, kids):
    for item in pieces:
        if item[0] == "room":
            wanted[kids[item[1]]][item[2]] = True


def _put_together(texts, pieces, kids):
    return "".join([item[1] if item[0] == "say" else texts[kids[item[1]]][item[2]] for item in pieces])


def rooms_at(reader, tree):
    """The state of a tree, and the texts of its rooms."""
    reading = _reading_of(reader, tree)
    if max(reading.lengths[-1]) > MOST_LETTERS:
        raise TooMany(MOST_LETTERS)
    kids = reading.nodes[-1][1]
    return reading.states[-1], tuple([reading.text_of(pieces, kids) for pieces in reading.rows[-1]])


def _reading_of(reader, tree):
    check_reader(reader)
    check_tree(reader[1][1], tree)
    return Reading(reader, tree)


def lets_by(reader, tree):
    """Whether the reader lets a tree by."""
    return _reading_of(reader, tree).end is not None


def written(reader, tree):
    """What the reader writes of a tree."""
    reading = _reading_of(reader, tree)
    if reading.end is None:
        raise NotLetBy("the state of the tree has no end")
    root = [len(reading.nodes) - 1]
    if reading.length_of(reading.end, root) > MOST_LETTERS:
        raise TooMany(MOST_LETTERS)
    return reading.text_of(reading.end, root)


def domain(reader):
    """The least set of the trees that the reader lets by."""
    check_reader(reader)
    takes = [state for state, end in enumerate(reader[4]) if end is not None]
    return least_of(reader[1][:4] + (tuple(takes),))
