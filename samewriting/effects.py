"""Effects of texts on rows: for each row the row behind the text from there on. Each is told by a number."""

from samewriting.machines import LETTERS
from samewriting.rowforms import RowForms


class Effects:
    """The effects met so far of texts on the rows of a machine, each row three goals."""

    def __init__(self, rows):
        self.rows = rows
        self.found = []
        self.numbers = {}
        self.joined = {}
        self.known = {}
        self.none = self.number_of(tuple(range(len(rows))))

    def number_of(self, told):
        """The number of an effect told by rows."""
        if told not in self.numbers:
            self.numbers[told] = len(self.found)
            self.found.append(told)
        return self.numbers[told]

    def of_text(self, text):
        """The effect of a text."""
        if text not in self.known:
            effect = self.none
            for letter in text:
                goals = tuple([row[LETTERS.index(letter)] for row in self.rows])
                effect = self.behind(effect, self.number_of(goals))
            self.known[text] = effect
        return self.known[text]

    def behind(self, one, other):
        """The effect of a text with the one effect and, behind it, one with the other."""
        key = (one, other)
        if key not in self.joined:
            then = self.found[other]
            self.joined[key] = self.number_of(tuple([then[row] for row in self.found[one]]))
        return self.joined[key]

    def of_pieces(self, pieces, kids):
        """The effect of pieces, kids being the effects of the rooms of each child."""
        told = self.none
        for item in pieces:
            told = self.behind(told, self.of_text(item[1]) if item[0] == "say" else kids[item[1]][item[2]])
        return told


class Signs(RowForms):
    """How signs of trees for a reader come of those of their children: the effects of the rooms alone.

    A form has an effect for each part of a room.
    """

    def __init__(self, reader, effects):
        super().__init__(reader)
        self.effects = effects

    def rooms_at(self, kind, place, kids):
        """The effects of the rooms of a tree, by those of its children."""
        return tuple([self.effects.of_pieces(pieces, kids) for pieces in self.reader[3][kind][place]])

    def end_at(self, state, rooms):
        """The effect of what the end makes of the rooms, None if there is no end."""
        end = self.reader[4][state]
        return None if end is None else self.effects.of_pieces(end, [rooms])

    def parted(self, pieces):
        """The effects ahead of, between and behind the rooms in pieces."""
        told = [self.effects.none]
        for item in pieces:
            if item[0] == "say":
                told[-1] = self.effects.behind(told[-1], self.effects.of_text(item[1]))
            else:
                told.append(self.effects.none)
        return tuple(told)

    def with_child(self, links, own, child, rooms):
        """The effects of a room with those of the rooms of a child put in."""
        behind = self.effects.behind
        told = [own[0]]
        for (other, room), effect in zip(links, own[1:]):
            if other == child:
                told[-1] = behind(behind(told[-1], rooms[room]), effect)
            else:
                told.append(effect)
        return tuple(told)

    def done(self, form):
        """The effects of the rooms, of a form with all children put in."""
        return tuple([own[0] for own in form])
