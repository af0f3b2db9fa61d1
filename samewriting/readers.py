"""Readers: they fold trees into texts, gathered from the leaves up."""

from samewriting.errors import BadReader, NotLetBy, TooMany
from samewriting.foldings import is_folding
from samewriting.gathering import MOST_LETTERS, Gathering
from samewriting.joins import least_of
from samewriting.pieces import are_pieces
from samewriting.sets import states_in
from samewriting.trees import check_tree, listed
from samewriting.walks import place_of


def _are_rooms(thing, rank, rooms):
    """Whether any value is pieces of so many children and rooms."""
    return are_pieces(thing, "room", rank, rooms)


def is_reader(thing):
    """Whether any value is a reader."""
    return is_folding(thing, "reader", _are_rooms)


def check_reader(reader):
    """Raise BadReader unless this is a reader."""
    if not is_reader(reader):
        raise BadReader("no reader")


class Reading:
    """A tree read by a reader: its state, the end of this state, and its rooms gathered."""

    def __init__(self, reader, tree):
        trees = reader[1]
        nodes = listed(trees[1], tree)
        states = states_in(trees, nodes)
        self.gathering = Gathering(nodes)
        for kind, kids in nodes:
            place = place_of(trees[2], [states[kid] for kid in kids])
            self.gathering.gather(reader[3][kind][place])
        self.state = states[-1]
        self.end = reader[4][self.state]

    def text(self):
        """What is written, the end being there; TooMany for too many letters."""
        return self.gathering.text_of(self.end, [len(self.gathering.nodes) - 1])


def rooms_at(reader, tree):
    """The state of a tree, and the texts of its rooms."""
    reading = _reading_of(reader, tree)
    gathering = reading.gathering
    if max(gathering.lengths[-1]) > MOST_LETTERS:
        raise TooMany(MOST_LETTERS)
    kids = gathering.nodes[-1][1]
    return reading.state, tuple([gathering.text_of(pieces, kids) for pieces in gathering.rows[-1]])


def _reading_of(reader, tree):
    check_reader(reader)
    check_tree(reader[1][1], tree)
    return Reading(reader, tree)


def lets_by(reader, tree):
    """Whether the reader lets a tree by."""
    return _reading_of(reader, tree).end is not None


def written(reader, tree):
    """What the reader writes of a tree."""
    reading = _reading_of(reader, tree)
    if reading.end is None:
        raise NotLetBy("the state of the tree has no end")
    return reading.text()


def domain(reader):
    """The least set of the trees that the reader lets by."""
    check_reader(reader)
    return least_of(reader[1][:4] + (states_with_end(reader[4]),))


def states_with_end(ends):
    """The states with an end, ascending."""
    return tuple([state for state, end in enumerate(ends) if end is not None])
