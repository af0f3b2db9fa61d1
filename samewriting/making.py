"""Readers made of readers."""

from samewriting.assembling import assembled
from samewriting.errors import BadTexts, OtherKinds, TooMany
from samewriting.folding import Folder
from samewriting.maps import check_map
from samewriting.pieces import is_text, pressed, pressed_within
from samewriting.readers import check_reader, states_with_end
from samewriting.sets import check_set
from samewriting.trees import check_kinds
from samewriting.values import is_row
from samewriting.walks import check_many_goals, place_of, rows_of, tuples_met, walk

_MOST_STATES = 60
_MOST_GOALS = 4000
_MOST_ROOMS = 8
_MOST_SPELLED = 8


def mirrored(reader):
    """The reader that writes each text from its end to its beginning."""
    check_reader(reader)
    return _with_pieces(reader, _turned)


def _turned(pieces):
    return pressed([("say", item[1][::-1]) if item[0] == "say" else item for item in reversed(pieces)])


def _with_pieces(reader, change):
    """The reader with its pieces changed."""
    _, trees, rooms, rows, ends = reader
    told = tuple([tuple([tuple([change(pieces) for pieces in held]) for held in row]) for row in rows])
    own = trees[:4] + (states_with_end(ends),)
    return ("reader", own, rooms, told, tuple([None if end is None else change(end) for end in ends]))


def spelled(reader, texts):
    """The reader that writes one text for each a, one for each b, one for each c."""
    check_reader(reader)
    if not is_row(texts, 3) or not all([is_text(text) and len(text) <= _MOST_SPELLED for text in texts]):
        raise BadTexts("not three texts of at most 8 letters")
    speller = Speller(texts)
    return _with_pieces(reader, speller.spell)


class Speller:
    """Spells says, each unlike one once."""

    def __init__(self, texts):
        self.texts = texts
        self.known = {}

    def spell(self, pieces):
        """The pieces with a text for each letter; TooMany if there are too many items then."""
        return pressed_within([("say", self._spelled(item[1])) if item[0] == "say" else item for item in pieces])

    def _spelled(self, letters):
        if letters not in self.known:
            self.known[letters] = "".join([self.texts["abc".index(letter)] for letter in letters])
        return self.known[letters]


def limited(trees, reader):
    """The reader that lets by the trees in the set alone."""
    check_set(trees)
    check_reader(reader)
    _check_kinds([trees, reader[1]])
    sides = Sides([trees], [reader])

    def end_at(key):
        return sides.end_of(0, key) if key[0] in trees[4] else None

    return sides.assembled(end_at)


def _check_kinds(sets):
    if not all([trees[1] == sets[0][1] for trees in sets]):
        raise OtherKinds("not the same kinds")


class Sides:
    """Readers beside sets: the states that trees have in all of them; the rooms of one reader, then of the next one."""

    def __init__(self, sets, readers):
        self.sets = sets + [reader[1] for reader in readers]
        self.readers = readers
        self.kinds = self.sets[0][1]
        self.met, self.goals = tuples_met(self.sets, _MOST_STATES, _MOST_GOALS)
        self.rooms = sum([reader[2] for reader in readers])
        if self.rooms > _MOST_ROOMS:
            raise TooMany(_MOST_ROOMS)

    def assembled(self, end_at):
        """The reader with these ends."""
        return assembled(self.kinds, self.met, self.goals, self.rooms, self._rooms_at, end_at)

    def _state_in(self, number, key):
        """The state that a reader has there."""
        return key[len(self.sets) - len(self.readers) + number]

    def _rooms_at(self, kind, keys):
        told = []
        for number, reader in enumerate(self.readers):
            place = place_of(reader[1][2], [self._state_in(number, key) for key in keys])
            told.extend([self._moved(number, pieces) for pieces in reader[3][kind][place]])
        return told

    def _moved(self, number, pieces):
        """Pieces of a reader, pressed, its rooms standing behind those of the readers ahead of it."""
        ahead = sum([reader[2] for reader in self.readers[:number]])
        return pressed([item if item[0] == "say" else ("room", item[1], item[2] + ahead) for item in pieces])

    def end_of(self, number, key):
        """The end that a reader has there, None if it has none."""
        end = self.readers[number][4][self._state_in(number, key)]
        return None if end is None else self._moved(number, end)


def joined(one, other):
    """The reader that writes what one does and, behind it, what other does."""
    check_reader(one)
    check_reader(other)
    _check_kinds([one[1], other[1]])
    sides = Sides([], [one, other])

    def end_at(key):
        ends = [sides.end_of(number, key) for number in range(2)]
        return None if None in ends else pressed_within(ends[0] + ends[1])

    return sides.assembled(end_at)


def chosen(trees, one, other):
    """The reader that writes of the trees in the set what one does, of the other trees what other does."""
    check_set(trees)
    check_reader(one)
    check_reader(other)
    _check_kinds([trees, one[1], other[1]])
    sides = Sides([trees], [one, other])

    def end_at(key):
        return sides.end_of(0 if key[0] in trees[4] else 1, key)

    return sides.assembled(end_at)


def folded(reader, kinds, frames):
    """The reader over kinds that writes what the reader does of the trees that they map to."""
    check_reader(reader)
    check_kinds(kinds)
    check_map(kinds, reader[1][1], frames)
    folder = Folder(reader, frames)

    def crowd(many):
        # What is met are states of the reader, never more than are let.
        check_many_goals(kinds, many, _MOST_GOALS)

    keys = walk(kinds, folder.state_at, crowd)
    goals = rows_of(kinds, keys, folder.state_at)
    return assembled(kinds, keys, goals, reader[2], folder.rooms_at, folder.end_at)
