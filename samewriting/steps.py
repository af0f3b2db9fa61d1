"""Steps of a reader: from a tree to one in which it stands, with how often rooms stand in rooms."""

from samewriting.tidying import Uses
from samewriting.values import is_between, is_row
from samewriting.walks import place_of


class Steps:
    """The steps of a reader, of those that lead likewise with the same numbers just one.

    A link is (state, goal, numbers, step): numbers[x] are pairs (y, how often room x stands in room y).
    """

    def __init__(self, reader):
        self.reader = reader
        self.uses = Uses(reader)
        self.links = self._links()

    def _links(self):
        trees = self.reader[1]
        found = {}
        for kind, states, goal, rooms in self.uses.rows:
            for at, state in enumerate(states):
                step = (trees[1][kind][0], at, tuple(states))
                found.setdefault((state, goal, _numbers_of(rooms, at)), step)
        return [key + (step,) for key, step in found.items()]

    def along(self, state, way):
        """How often rooms come into rooms along any values that may be steps from a state back to it.

        None if they are no such steps. Numbers are told up to 2: more makes no difference.
        """
        rooms = self.reader[2]
        often = [[int(room == other) for other in range(rooms)] for room in range(rooms)]
        at = state
        for step in way:
            link = self._link_of(step)
            if link is None or link[0] != at:
                return None
            at, numbers = link[1:]
            often = [_put_on(row, numbers) for row in often]
        return often if at == state else None

    def _link_of(self, thing):
        """(state, goal, numbers) of any value, None if it is no step."""
        trees = self.reader[1]
        names = [name for name, _ in trees[1]]
        if not is_row(thing, 3) or not isinstance(thing[0], str) or thing[0] not in names:
            return None
        kind = names.index(thing[0])
        rank = trees[1][kind][1]
        if not is_between(thing[1], 0, rank - 1) or not is_row(thing[2], rank):
            return None
        if not all([is_between(state, 0, trees[2] - 1) and state in self.uses.met for state in thing[2]]):
            return None
        place = place_of(trees[2], thing[2])
        return thing[2][thing[1]], trees[3][kind][place], _numbers_of(self.reader[3][kind][place], thing[1])

    def counts_of_end(self, state):
        """How often each room stands in the end of a state."""
        return tuple([self.reader[4][state].count(("room", 0, room)) for room in range(self.reader[2])])


def _numbers_of(rooms, at):
    """For each room of the child at this place the pairs (room, how often it stands in that)."""
    told = [{} for _ in rooms]
    for other, pieces in enumerate(rooms):
        for item in pieces:
            if item[0] == "room" and item[1] == at:
                row = told[item[2]]
                row[other] = row.get(other, 0) + 1
    return tuple([tuple(sorted(row.items())) for row in told])


def _put_on(row, numbers):
    """How often a room comes into each room behind a further step, told up to 2."""
    told = [0] * len(row)
    for room, often in enumerate(row):
        for other, many in numbers[room]:
            told[other] = min(2, told[other] + often * many)
    return told


def further_of(numbers, counts):
    """The counts at the beginning of a step, of those at its goal."""
    return tuple([sum([many * counts[other] for other, many in row]) for row in numbers])
