"""Readers made tidy: without what is of no use, and with what is alike made one."""

from samewriting.lots import lots_of
from samewriting.pieces import pressed
from samewriting.readers import check_reader, states_with_end
from samewriting.sets import met_states
from samewriting.walks import any_number, led_to, place_of, rows_of, tuples_below, walk

_NO_USE = -1


class Uses:
    """The states of a reader that are met, those of use, and the rooms of use at each state."""

    def __init__(self, reader):
        self.reader = reader
        self.met = met_states(reader[1])
        self.rows = self.rows_met()
        self.states = self._states_of_use()
        self.rooms = self._rooms_of_use()

    def rows_met(self):
        """The rows of states that are met: (kind, states, goal, pieces of the rooms)."""
        trees = self.reader[1]
        found = []
        for kind, pair in enumerate(trees[1]):
            for spots in tuples_below(len(self.met), pair[1]):
                states = [self.met[spot] for spot in spots]
                place = place_of(trees[2], states)
                found.append((kind, states, trees[3][kind][place], self.reader[3][kind][place]))
        return found

    def _states_of_use(self):
        below = {state: {} for state in self.met}
        for _, states, goal, _ in self.rows:
            for state in states:
                below[goal][state] = True
        return led_to(below, [state for state in self.met if self.reader[4][state] is not None])

    def _rooms_of_use(self):
        # For each room of a state the rooms of children that stand in it.
        below = {(state, room): {} for state in self.met for room in range(self.reader[2])}
        for _, states, goal, rooms in self.rows:
            for room, pieces in enumerate(rooms):
                for item in pieces:
                    if item[0] == "room":
                        below[(goal, room)][(states[item[1]], item[2])] = True
        ends = [(state, self.reader[4][state] or ()) for state in self.met]
        return led_to(below, [(state, item[2]) for state, end in ends for item in end if item[0] == "room"])


def tidied(reader):
    """The reader without what is of no use: it lets by and writes the same."""
    check_reader(reader)
    return _tidied(reader)


def _tidied(reader):
    uses = Uses(reader)
    own = {state: state if state in uses.states else _NO_USE for state in uses.met}
    kept = [room for room in range(reader[2]) if any([(state, room) in uses.rooms for state in uses.met])]
    places = {room: place for place, room in enumerate(kept or [0])}

    def rooms_at(kind, place):
        goal = reader[1][3][kind][place]
        return [reader[3][kind][place][room] if (goal, room) in uses.rooms else () for room in kept or [0]]

    return _with_states_joined(reader, own, places, rooms_at)


def _with_states_joined(reader, own, places, rooms_at):
    """The reader with states of one key made one, rooms exchanged for their places, walked anew.

    `own` tells the keys of states that are met, `rooms_at` the pieces of a row.
    """
    trees = reader[1]
    standing = {}
    for state, key in own.items():
        standing.setdefault(key, state)

    def place_at(keys):
        return place_of(trees[2], [standing[key] for key in keys])

    def step(kind, keys):
        return own[trees[3][kind][place_at(keys)]]

    keys = walk(trees[1], step, any_number)
    rows = []
    for kind, pair in enumerate(trees[1]):
        found = [place_at([keys[number] for number in numbers]) for numbers in tuples_below(len(keys), pair[1])]
        rows.append(tuple([tuple([_exchanged(pieces, places) for pieces in rooms_at(kind, place)]) for place in found]))
    ends = [reader[4][standing[key]] for key in keys]
    ends = tuple([None if end is None else _exchanged(end, places) for end in ends])
    made = ("set", trees[1], len(keys), rows_of(trees[1], keys, step), states_with_end(ends))
    return ("reader", made, len(set(list(places.values()))), tuple(rows), ends)


def _exchanged(pieces, places):
    """Pieces, pressed, with other rooms."""
    return pressed([item if item[0] == "say" else ("room", item[1], places[item[2]]) for item in pieces])


def merged(reader):
    """The tidied reader with alike states made one, and alike rooms, until nothing changes."""
    check_reader(reader)
    while True:
        told = _with_alike_rooms_joined(_with_alike_states_joined(_tidied(reader)))
        if told == reader:
            return told
        reader = told


def _with_alike_states_joined(reader):
    trees = reader[1]
    met = list(range(trees[2]))
    numbers = {}
    marks = [[numbers.setdefault(rooms, len(numbers)) for rooms in row] for row in reader[3]]
    lot = lots_of(trees, met, {state: reader[4][state] for state in met}, marks)
    if len(set(list(lot.values()))) == len(met):
        return reader

    def rooms_at(kind, place):
        return reader[3][kind][place]

    return _with_states_joined(reader, lot, {room: room for room in range(reader[2])}, rooms_at)


def _with_alike_rooms_joined(reader):
    least = _least_alike(reader)
    kept = sorted(set(least))
    if len(kept) == reader[2]:
        return reader
    places = {room: kept.index(own) for room, own in enumerate(least)}

    def rooms_at(kind, place):
        return [reader[3][kind][place][room] for room in kept]

    return _with_states_joined(reader, {state: state for state in range(reader[1][2])}, places, rooms_at)


def _least_alike(reader):
    """For each room the least one that is alike."""
    rows = [rooms for row in reader[3] for rooms in row]
    least = [0] * reader[2]
    many = 0
    while len(set(least)) > many:
        many = len(set(least))
        exchange = {room: own for room, own in enumerate(least)}
        first = {}
        told = []
        for room in range(reader[2]):
            # Rooms that were told apart stay so: the sequence of exchanges begins with the coarsest.
            sign = (least[room],) + tuple([_with_rooms(rooms[room], exchange) for rooms in rows])
            told.append(first.setdefault(sign, room))
        least = told
    return least


def _with_rooms(pieces, exchange):
    return tuple([item if item[0] == "say" else ("room", item[1], exchange[item[2]]) for item in pieces])
