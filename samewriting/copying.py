"""How often rooms are put into what is written: countings of a reader, or loops without end."""

from samewriting.errors import TooMany
from samewriting.loops import Loops
from samewriting.readers import check_reader
from samewriting.steps import Steps, further_of
from samewriting.values import is_between, is_rising, is_row, is_whole, is_word

_MOST_PAIRS = 2000


def copies(reader):
    """("at most", counting), the one of fewest pairs, or ("endless", loop)."""
    check_reader(reader)
    steps = Steps(reader)
    pairs = _pairs_of(steps)
    if pairs is not None:
        return ("at most", tuple(sorted(pairs)))
    loop = Loops(steps.links, steps.uses.rooms).any_loop()
    if loop is None:
        raise TooMany(_MOST_PAIRS)
    return ("endless", loop)


def _first_pairs(steps):
    return [(state, steps.counts_of_end(state)) for state in steps.uses.met if steps.reader[4][state] is not None]


def _links_by_goal(steps):
    found = {}
    for link in steps.links:
        found.setdefault(link[1], []).append(link)
    return found


def _pairs_of(steps):
    """The pairs of the counting of fewest pairs, None if there are too many."""
    links = _links_by_goal(steps)
    waiting = _first_pairs(steps)
    known = {pair: True for pair in waiting}
    while waiting:
        goal, counts = waiting.pop()
        for state, _, numbers, _ in links.get(goal, []):
            pair = (state, further_of(numbers, counts))
            if pair not in known:
                if len(known) == _MOST_PAIRS:
                    return None
                known[pair] = True
                waiting.append(pair)
    return list(known)


def most_copies(reader):
    """The greatest number in the counts, None if there is a loop."""
    word, told = copies(reader)
    if word == "endless":
        return None
    return max([number for _, counts in told for number in counts], default=0)


def is_copies(reader, thing):
    """Whether any value is a counting, or a loop, of the reader."""
    check_reader(reader)
    if not is_row(thing, 2):
        return False
    if is_word(thing[0], "at most"):
        return _are_pairs(reader, thing[1]) and _is_counting(Steps(reader), thing[1])
    return is_word(thing[0], "endless") and _is_loop(Steps(reader), thing[1])


def _are_pairs(reader, thing):
    """Whether any value is an ascending tuple of a state and a number for each room."""
    if not isinstance(thing, tuple):
        return False
    for pair in thing:
        if not is_row(pair, 2) or not is_between(pair[0], 0, reader[1][2] - 1) or not is_row(pair[1], reader[2]):
            return False
        if not all([is_whole(number) and number >= 0 for number in pair[1]]):
            return False
    return is_rising(thing)


def _is_counting(steps, pairs):
    known = {pair: True for pair in pairs}
    if not all([pair in known for pair in _first_pairs(steps)]):
        return False
    links = _links_by_goal(steps)
    for goal, counts in pairs:
        for state, _, numbers, _ in links.get(goal, []):
            if (state, further_of(numbers, counts)) not in known:
                return False
    return True


def _is_loop(steps, thing):
    if not is_row(thing, 4) or not isinstance(thing[3], tuple) or not thing[3]:
        return False
    state, first, second, way = thing
    rooms = steps.reader[2]
    if not is_between(state, 0, steps.reader[1][2] - 1) or state not in steps.uses.met:
        return False
    if not all([is_between(room, 0, rooms - 1) for room in (first, second)]) or (state, second) not in steps.uses.rooms:
        return False
    often = steps.along(state, way)
    if often is None:
        return False
    if first == second:
        return often[first][first] > 1
    return min(often[first][first], often[first][second], often[second][second]) > 0
