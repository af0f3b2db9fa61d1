"""What rooms hold, as far as it may stand in one text: all else is told alike, by None."""


class Marks:
    """How the worths of rooms come of those of children, each a part of the text, or None.

    A form is a row of the reader in which the worths of the first children are put in, told as in
    effects.Signs: for each room the letters ahead of, between and behind the rooms that are still
    to come, None if some of them cannot stand in the text.
    """

    def __init__(self, reader, letters):
        self.reader = reader
        self.letters = letters
        self.links = {}

    def begun(self, kind, place):
        """The form of a row with nothing put in."""
        return tuple([self._parted(pieces) for pieces in self.reader[3][kind][place]])

    def _parted(self, pieces):
        told = [""]
        for item in pieces:
            if item[0] == "say":
                told[-1] += item[1]
            else:
                told.append("")
        return self._standing(told)

    def _standing(self, parts):
        """The parts, None if one of them stands nowhere in the text."""
        return tuple(parts) if all([part in self.letters for part in parts]) else None

    def put_in(self, kind, place, child, form, rooms):
        """The form with the worths of a child put in, those of the children ahead of it being in."""
        key = (kind, place, child)
        if key not in self.links:
            self.links[key] = [[item[1:] for item in pieces if item[0] == "room" and item[1] >= child]
                               for pieces in self.reader[3][kind][place]]
        return tuple([self._with_child(links, own, child, rooms) for links, own in zip(self.links[key], form)])

    def _with_child(self, links, own, child, rooms):
        if own is None:
            return None
        told = [own[0]]
        for (other, room), letters in zip(links, own[1:]):
            if other != child:
                told.append(letters)
            elif rooms[room] is None:
                return None
            else:
                told[-1] += rooms[room] + letters
        return self._standing(told)

    def done(self, form):
        """The worths of the rooms, of a form with all children put in."""
        return tuple([None if own is None else own[0] for own in form])

    def is_written(self, state, rooms):
        """Whether a tree of this state and these worths is let by, and the text is written of it."""
        end = self.reader[4][state]
        if end is None:
            return False
        own = self._parted(end)
        links = [item[1:] for item in end if item[0] == "room"]
        return own is not None and self._with_child(links, own, 0, rooms) == (self.letters,)
