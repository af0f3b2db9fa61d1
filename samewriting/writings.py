"""What readers write of the trees of tables, as long as it may be."""

from samewriting.errors import BadIndex, NotLetBy, OtherKinds, TooMany
from samewriting.readers import check_reader
from samewriting.sets import states_in
from samewriting.shorts import MOST_ROWS
from samewriting.tables import check_table, nodes_of
from samewriting.unlike import first_unlike
from samewriting.values import is_between
from samewriting.walks import place_of


class Writing:
    """What a reader writes of the tree of a table: the pieces of each room of each row, and their tallies."""

    def __init__(self, reader, table):
        trees = reader[1]
        self.nodes = nodes_of(trees[1], table)
        states = states_in(trees, self.nodes)
        self.end = reader[4][states[-1]]
        if self.end is None:
            raise NotLetBy("the state of the tree has no end")
        self.rooms = []
        self.tallies = []
        self.lengths = []
        for kind, kids in self.nodes:
            self.rooms.append(reader[3][kind][place_of(trees[2], [states[kid] for kid in kids])])
            self.tallies.append([self.tally_of(pieces, kids) for pieces in self.rooms[-1]])
            self.lengths.append([sum(tally) for tally in self.tallies[-1]])
        self.top = [len(self.nodes) - 1]

    def tally_of(self, pieces, kids):
        """How often a, b and c stand in the text of pieces, the children being rows that were told ahead."""
        told = [0, 0, 0]
        for item in pieces:
            if item[0] == "say":
                own = [item[1].count(letter) for letter in "abc"]
            else:
                own = self.tallies[kids[item[1]]][item[2]]
            told = [one + other for one, other in zip(told, own)]
        return told

    def tally(self):
        """How often a, b and c are written."""
        return self.tally_of(self.end, self.top)

    def length_of(self, item, kids):
        """How many letters an item has."""
        return len(item[1]) if item[0] == "say" else self.lengths[kids[item[1]]][item[2]]

    def sayer_at(self, index):
        """(path, room, piece, letter) for the letter at an index that is there."""
        path = []
        room = None
        pieces = self.end
        kids = self.top
        while True:
            place = 0
            while index >= self.length_of(pieces[place], kids):
                index -= self.length_of(pieces[place], kids)
                place += 1
            if pieces[place][0] == "say":
                return tuple(path), room, place, index
            # The tree itself is the child 0 of what the end tells of: no step leads to it.
            if room is not None:
                path.append(pieces[place][1])
            node = kids[pieces[place][1]]
            room = pieces[place][2]
            pieces = self.rooms[node][room]
            kids = self.nodes[node][1]


class ShortMaker:
    """Makes the rows of a short of a writing: equal rows once, and only those that come into the text."""

    def __init__(self, made):
        self.made = made
        self.rows = []
        self.numbers = {}

    def make(self):
        """The short; TooMany if it would have too many rows."""
        places = []
        for (_, kids), held, wanted in zip(self.made.nodes, self.made.rooms, self._wanted()):
            places.append([self._put_together(pieces, kids, places) if is_wanted else None
                           for pieces, is_wanted in zip(held, wanted)])
        # All rows come into the text: so the last one tells it.
        self._put_together(self.made.end, self.made.top, places)
        if len(self.rows) > MOST_ROWS:
            raise TooMany(MOST_ROWS)
        return ("short", tuple(self.rows))

    def _wanted(self):
        """For each room of each node whether its text, not "", comes into what is written."""
        made = self.made
        wanted = [[False for _ in held] for held in made.rooms]
        self._want(wanted, made.end, made.top)
        for node in range(len(made.nodes) - 1, -1, -1):
            for room, is_wanted in enumerate(wanted[node]):
                if is_wanted:
                    self._want(wanted, made.rooms[node][room], made.nodes[node][1])
        return wanted

    def _want(self, wanted, pieces, kids):
        for item in pieces:
            if item[0] == "room" and self.made.length_of(item, kids) > 0:
                wanted[kids[item[1]]][item[2]] = True

    def _put_together(self, pieces, kids, places):
        """The number of a row for pieces, the rows of the rooms in them being there."""
        found = []
        for item in pieces:
            if item[0] == "say":
                found.append(self._number_of(item))
            elif self.made.length_of(item, kids) > 0:
                found.append(places[kids[item[1]]][item[2]])
        if not found:
            return self._number_of(("say", ""))
        told = found[0]
        for number in found[1:]:
            told = self._number_of(("then", told, number))
        return told

    def _number_of(self, row):
        if row not in self.numbers:
            self.numbers[row] = len(self.rows)
            self.rows.append(row)
        return self.numbers[row]


def _made(reader, table):
    """The writing; BadReader, BadTable, NotLetBy."""
    check_reader(reader)
    check_table(reader[1][1], table)
    return Writing(reader, table)


def writing(reader, table):
    """A short of what the reader writes of the tree of the table."""
    return ShortMaker(_made(reader, table)).make()


def long_length(reader, table):
    """How many letters are written."""
    return sum(_made(reader, table).tally())


def long_tally(reader, table):
    """How often a, b and c are written."""
    return tuple(_made(reader, table).tally())


def writer_at(reader, table, index):
    """(path, room, piece, letter): who says the letter at this index."""
    made = _made(reader, table)
    if not is_between(index, 0, sum(made.tally()) - 1):
        raise BadIndex("no letter there")
    return made.sayer_at(index)


def first_unlike_of(one, other, table):
    """The first index at which what two readers write of the tree is unlike, None if there is none."""
    check_reader(one)
    check_reader(other)
    if one[1][1] != other[1][1]:
        raise OtherKinds("not the same kinds")
    check_table(one[1][1], table)
    both = [Writing(reader, table) for reader in (one, other)]
    shorts = [ShortMaker(made).make() for made in both]
    return first_unlike(shorts[0], shorts[1])
