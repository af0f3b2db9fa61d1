"""A scribe behind a reader, made one reader."""

from samewriting.assembling import assembled
from samewriting.errors import TooMany
from samewriting.pieces import pressed_within
from samewriting.readers import check_reader
from samewriting.scribes import check_scribe, goals_of, read_from
from samewriting.types import check_goals, grown_signs
from samewriting.walks import any_number, place_of, rows_of, walk

_MOST_ROOMS = 8
_MOST_STATES = 60


def composed(reader, scribe):
    """The reader that writes what the scribe makes of what the reader writes."""
    check_reader(reader)
    check_scribe(scribe)
    if reader[2] * len(scribe[1]) > _MOST_ROOMS:
        raise TooMany(_MOST_ROOMS)
    grove = grown_signs(reader, goals_of(scribe), _MOST_STATES)
    check_goals(grove)
    return Composer(reader, scribe, grove.signs).told()


class Composer:
    """Makes the composed reader; the signs are keys (state, effects of rooms)."""

    def __init__(self, reader, scribe, signs):
        self.reader = reader
        self.scribe = scribe
        self.signs = signs
        self.many = len(scribe[1])

    def told(self):
        """The reader."""
        trees = self.reader[1]
        kinds = trees[1]
        keys = walk(kinds, self._key_at, any_number)
        goals = rows_of(kinds, keys, self._key_at)
        return assembled(kinds, keys, goals, self.reader[2] * self.many, self._rooms_at, self._end_of)

    def _key_at(self, kind, keys):
        place = place_of(self.reader[1][2], [state for state, _ in keys])
        return self.reader[1][3][kind][place], self.signs.rooms_at(kind, place, [rooms for _, rooms in keys])

    def _rooms_at(self, kind, keys):
        place = place_of(self.reader[1][2], [state for state, _ in keys])
        below = [rooms for _, rooms in keys]
        told = []
        for pieces in self.reader[3][kind][place]:
            told.extend([pressed_within(self._read(pieces, row, below)[1]) for row in range(self.many)])
        return tuple(told)

    def _read(self, pieces, row, below):
        """The row behind pieces, read from a row on, and the items that come of them."""
        told = []
        for item in pieces:
            if item[0] == "say":
                row, letters = read_from(self.scribe, row, item[1])
                told.append(("say", letters))
            else:
                told.append(("room", item[1], item[2] * self.many + row))
                row = self.signs.effects.found[below[item[1]][item[2]]][row]
        return row, told

    def _end_of(self, key):
        end = self.reader[4][key[0]]
        if end is None:
            return None
        row, told = self._read(end, 0, [key[1]])
        if self.scribe[2][row] is None:
            return None
        return pressed_within(told + [("say", self.scribe[2][row])])
