"""Texts of the nodes of a tree, gathered from the leaves up out of pieces."""

from samewriting.errors import TooMany

MOST_LETTERS = 10000


class Gathering:
    """The nodes of a tree, children first, with pieces for each room, None for a room without a text.

    How long texts get is told ahead of the texts: only those are made that come into what is asked for.
    """

    def __init__(self, nodes):
        self.nodes = nodes
        self.rows = []
        self.lengths = []

    def gather(self, row):
        """Take the pieces of the rooms of the next node."""
        kids = self.nodes[len(self.rows)][1]
        self.rows.append(row)
        self.lengths.append([None if pieces is None else self.length_of(pieces, kids) for pieces in row])

    def length_of(self, pieces, kids):
        """How many letters pieces have, the children being nodes that were told ahead."""
        told = 0
        for item in pieces:
            told += len(item[1]) if item[0] == "say" else self.lengths[kids[item[1]]][item[2]]
        return told

    def text_of(self, pieces, kids):
        """The text of pieces; TooMany if it is too long."""
        if self.length_of(pieces, kids) > MOST_LETTERS:
            raise TooMany(MOST_LETTERS)
        # No text of a room that comes into it is longer than it is.
        wanted = [[False for _ in row] for row in self.rows]
        _want(wanted, pieces, kids)
        for number in range(len(self.rows) - 1, -1, -1):
            for room, is_wanted in enumerate(wanted[number]):
                if is_wanted:
                    _want(wanted, self.rows[number][room], self.nodes[number][1])
        texts = []
        for number, row in enumerate(self.rows):
            below = self.nodes[number][1]
            texts.append([_put_together(texts, told, below) if is_wanted else None
                          for told, is_wanted in zip(row, wanted[number])])
        return _put_together(texts, pieces, kids)


def _want(wanted, pieces, kids):
    for item in pieces:
        if item[0] != "say":
            wanted[kids[item[1]]][item[2]] = True


def _put_together(texts, pieces, kids):
    return "".join([item[1] if item[0] == "say" else texts[kids[item[1]]][item[2]] for item in pieces])
