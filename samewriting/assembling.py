"""Readers put together out of keys, each of which stands for a state."""

from samewriting.readers import states_with_end
from samewriting.walks import tuples_below


def assembled(kinds, keys, goals, rooms, rooms_at, end_at):
    """The reader whose states are the keys, by their numbers; its set takes the states with an end.

    The rows of its set are told already; rooms_at(kind, keys of the children) tells the pieces of
    a row, end_at(key) the end of a state.
    """
    rows = []
    for kind, pair in enumerate(kinds):
        rows.append(tuple([tuple(rooms_at(kind, [keys[number] for number in numbers]))
                           for numbers in tuples_below(len(keys), pair[1])]))
    ends = tuple([end_at(key) for key in keys])
    trees = ("set", kinds, len(keys), goals, states_with_end(ends))
    return ("reader", trees, rooms, tuple(rows), ends)
