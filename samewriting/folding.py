"""Readers behind maps: the pieces of frames, put into one another."""

from samewriting.errors import TooMany
from samewriting.pieces import MOST_ITEMS, MOST_SAID, pressed
from samewriting.walks import place_of

_NUMBER = -1


class Folder:
    """A reader, and a map to its kinds: what the reader tells of frames, by the states of what is put into them."""

    def __init__(self, reader, frames):
        self.reader = reader
        numbers = {pair[0]: number for number, pair in enumerate(reader[1][1])}
        # The nodes of each frame, children first, as (kind, numbers of the children); a number alone as (_NUMBER, it).
        self.frames = []
        for frame in frames:
            nodes = []
            _list_frame(numbers, frame, nodes)
            self.frames.append(nodes)

    def state_at(self, kind, states):
        """The state of what a kind's frame makes of trees of some states."""
        return self._states_in(kind, states)[-1]

    def _states_in(self, kind, states):
        trees = self.reader[1]
        found = []
        for own, kids in self.frames[kind]:
            if own == _NUMBER:
                found.append(states[kids])
            else:
                found.append(trees[3][own][place_of(trees[2], [found[kid] for kid in kids])])
        return found

    def rooms_at(self, kind, states):
        """The pieces of the rooms of what a kind's frame makes; TooMany if one has too many items."""
        found = self._states_in(kind, states)
        rows = []
        for own, kids in self.frames[kind]:
            if own == _NUMBER:
                rows.append((None, [(("room", kids, room),) for room in range(self.reader[2])]))
            else:
                place = place_of(self.reader[1][2], [found[kid] for kid in kids])
                rows.append((kids, self.reader[3][own][place]))
        return _put_together(rows)

    def end_at(self, state):
        """The end of a state, pressed."""
        end = self.reader[4][state]
        return None if end is None else pressed(end)


def _list_frame(numbers, frame, nodes):
    """List the nodes of a frame, children first; the place of the last one."""
    if isinstance(frame, tuple):
        kids = [_list_frame(numbers, part, nodes) for part in frame[1:]]
        nodes.append((numbers[frame[0]], kids))
    else:
        nodes.append((_NUMBER, frame))
    return len(nodes) - 1


def _put_together(rows):
    """The pieces of the rooms of the last row, those of the rows ahead put in, pressed.

    A row is a pair: the places of its children, None for rooms that stay, and pieces for each room.
    """
    # How many items come is told ahead of them: they may be far too many to be made.
    measures = []
    for kids, held in rows:
        measures.append([_measured(measures, kids, pieces) for pieces in held])
    if max([_items_in(measure) for measure in measures[-1]]) > MOST_ITEMS:
        raise TooMany(MOST_ITEMS)
    known = {}
    many = len(rows[-1][1])
    return [pressed(_expanded(rows, known, len(rows) - 1, room)) for room in range(many)]


def _measured(measures, kids, pieces):
    told = (0, None)
    for item in pieces:
        if item[0] == "say":
            told = _behind(told, (len(item[1]), None))
        elif kids is None:
            told = _behind(told, (0, 1, 0))
        else:
            told = _behind(told, measures[kids[item[1]]][item[2]])
    return told


def _behind(one, other):
    """The measure of pieces behind others.

    It is (letters, None) where there are letters alone, otherwise (letters ahead, items, letters
    behind), the items being those from the first room to the last one.
    """
    if one[1] is None and other[1] is None:
        return one[0] + other[0], None
    if one[1] is None:
        return one[0] + other[0], other[1], other[2]
    if other[1] is None:
        return one[0], one[1], one[2] + other[0]
    return one[0], one[1] + _says(one[2] + other[0]) + other[1], other[2]


def _says(letters):
    """How many says so many letters take."""
    return (letters + MOST_SAID - 1) // MOST_SAID


def _items_in(measure):
    if measure[1] is None:
        return _says(measure[0])
    return _says(measure[0]) + measure[1] + _says(measure[2])


def _expanded(rows, known, place, room):
    """The items of a room, those of children put in: told once for each."""
    key = (place, room)
    if key not in known:
        kids, held = rows[place]
        told = []
        for item in held[room]:
            if item[0] == "say" or kids is None:
                told.append(item)
            else:
                told.extend(_expanded(rows, known, kids[item[1]], item[2]))
        known[key] = told
    return known[key]
