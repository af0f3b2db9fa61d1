"""Readers turned to writers, and writers turned to readers."""

from samewriting.assembling import assembled
from samewriting.errors import TooMany
from samewriting.pieces import pressed, pressed_within
from samewriting.readers import check_reader
from samewriting.walks import goals_in, place_of, rows_of, walk
from samewriting.writers import check_writer

_MOST_STATES = 60
_MOST_GOALS = 4000


def as_writer(reader):
    """The writer that lets by the same trees, and writes the same of them."""
    check_reader(reader)
    _, trees, rooms, rows, ends = reader
    if rooms > 7:
        raise TooMany(8)
    called = [[[_as_calls(pieces) for pieces in row] for row in kind] for kind in rows]
    whole = []
    for goals, kind in zip(trees[3], called):
        whole.append(tuple([_end_at(ends[goal], row) for goal, row in zip(goals, kind)]))
    told = [tuple(whole)]
    for room in range(rooms):
        told.append(tuple([tuple([pressed(row[room]) for row in kind]) for kind in called]))
    return ("writer", trees[1], trees, tuple(told))


def _as_calls(pieces):
    return tuple([item if item[0] == "say" else ("call", item[1], 1 + item[2]) for item in pieces])


def _end_at(end, row):
    """An end with the calls of rooms in their places, None if there is none."""
    if end is None:
        return None
    items = []
    for item in end:
        if item[0] == "say":
            items.append(item)
        else:
            items.extend(row[item[2]])
    return pressed_within(items)


def as_reader(writer):
    """The reader that lets by the same trees, and writes the same of them."""
    check_writer(writer)
    return reader_of(writer)


def reader_of(writer):
    """As as_reader, of what surely is a writer."""
    _, kinds, ahead, rows = writer
    ahead_of = LooksAhead(ahead, rows)
    keys = walk(kinds, ahead_of.key_at, _check_states)
    if goals_in(kinds, len(keys)) > _MOST_GOALS:
        raise TooMany(_MOST_GOALS)

    def end_at(key):
        return (("room", 0, 0),) if key[1] & 1 else None

    goals = rows_of(kinds, keys, ahead_of.key_at)
    return assembled(kinds, keys, goals, len(rows), ahead_of.rooms_at, end_at)


def _check_states(many):
    if many > _MOST_STATES:
        raise TooMany(_MOST_STATES)


class LooksAhead:
    """The states ahead of trees with the lots of own states for which they are good.

    A lot is told as a number that has the bit of each own state in it.
    """

    def __init__(self, ahead, rows):
        self.ahead = ahead
        self.rows = rows
        self.wanted = {}
        self.pieces = {}

    def key_at(self, kind, keys):
        """The (state, lot) of a tree of this kind, told by those of its children."""
        place = place_of(self.ahead[2], [state for state, _ in keys])
        if (kind, place) not in self.wanted:
            self.wanted[(kind, place)] = [_lots_wanted(own[kind][place], len(keys)) for own in self.rows]
        lot = 0
        for state, lots in enumerate(self.wanted[(kind, place)]):
            if lots is not None and all([wanted & key[1] == wanted for wanted, key in zip(lots, keys)]):
                lot |= 1 << state
        return self.ahead[3][kind][place], lot

    def rooms_at(self, kind, keys):
        """The pieces of the rooms of a tree of this kind."""
        place = place_of(self.ahead[2], [state for state, _ in keys])
        lot = self.key_at(kind, keys)[1]
        if (kind, place, lot) not in self.pieces:
            rules = [own[kind][place] for own in self.rows]
            told = [_as_rooms(rule) if lot >> state & 1 else () for state, rule in enumerate(rules)]
            self.pieces[(kind, place, lot)] = tuple(told)
        return self.pieces[(kind, place, lot)]


def _lots_wanted(rule, rank):
    """For each child the lot of own states for which it must be good; None for no rule."""
    if rule is None:
        return None
    lots = [0] * rank
    for item in rule:
        if item[0] == "call":
            lots[item[1]] |= 1 << item[2]
    return lots


def _as_rooms(rule):
    return pressed([item if item[0] == "say" else ("room", item[1], item[2]) for item in rule])
