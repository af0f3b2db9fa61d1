"""What rooms hold, as far as it may stand in one text: all else is told alike, by None."""

from samewriting.rowforms import RowForms


class Marks(RowForms):
    """How the worths of rooms come of those of children, each a part of the text, or None.

    A form has letters for each part of a room; it is None for a room of which some cannot stand in
    the text.
    """

    def __init__(self, reader, letters):
        super().__init__(reader)
        self.letters = letters

    def parted(self, pieces):
        """The letters ahead of, between and behind the rooms in pieces."""
        told = [""]
        for item in pieces:
            if item[0] == "say":
                told[-1] += item[1]
            else:
                told.append("")
        return self._standing(told)

    def _standing(self, parts):
        """The parts, None if one of them stands nowhere in the text."""
        return tuple(parts) if all([part in self.letters for part in parts]) else None

    def with_child(self, links, own, child, rooms):
        """The letters of a room with the worths of a child put in."""
        if own is None:
            return None
        told = [own[0]]
        for (other, room), letters in zip(links, own[1:]):
            if other != child:
                told.append(letters)
            elif rooms[room] is None:
                return None
            else:
                told[-1] += rooms[room] + letters
        return self._standing(told)

    def done(self, form):
        """The worths of the rooms, of a form with all children put in."""
        return tuple([None if own is None else own[0] for own in form])

    def is_written(self, state, rooms):
        """Whether a tree of this state and these worths is let by, and the text is written of it."""
        end = self.reader[4][state]
        if end is None:
            return False
        links = [item[1:] for item in end if item[0] == "room"]
        return self.with_child(links, self.parted(end), 0, rooms) == (self.letters,)
