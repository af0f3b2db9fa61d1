"""Maps from kinds to others: trees are exchanged for others, node by node."""

from samewriting.errors import BadMap, TooMany
from samewriting.joins import least_of
from samewriting.sets import check_set
from samewriting.trees import MOST_LEVELS, MOST_NODES, check_kinds, check_tree, is_node, listed
from samewriting.values import is_between, is_row
from samewriting.walks import check_many_goals, place_of, rows_of, walk

_MOST_IN_FRAME = 12
_MOST_GOALS = 4000


def is_map(kinds, others, thing):
    """Whether any value is a map from kinds to others."""
    check_kinds(kinds)
    check_kinds(others)
    return _fits(kinds, others, thing)


def _fits(kinds, others, thing):
    """Whether any value is a map from what surely are kinds to what surely are kinds."""
    if not is_row(thing, len(kinds)):
        return False
    return all([_is_frame(dict(others), pair[1], frame) for pair, frame in zip(kinds, thing)])


def _is_frame(ranks, rank, thing):
    """Whether any value is a frame for a kind of this rank."""
    nodes = 0
    row = [thing]
    # Level by level: what shares its parts may be endless large, so the walk ends at the bound.
    while row:
        row = [part for part in row if not is_between(part, 0, rank - 1)]
        nodes += len(row)
        if nodes > _MOST_IN_FRAME or not all([is_node(ranks, part) for part in row]):
            return False
        row = [child for part in row for child in part[1:]]
    return True


def check_map(kinds, others, frames):
    """Raise BadMap unless these are a map from what surely are kinds to what surely are kinds."""
    if not _fits(kinds, others, frames):
        raise BadMap("no map")


def mapped(kinds, others, frames, tree):
    """The tree of others that comes of a tree of kinds."""
    check_kinds(kinds)
    check_kinds(others)
    check_map(kinds, others, frames)
    check_tree(kinds, tree)
    return Mapping(frames, listed(kinds, tree)).told()


class Mapping:
    """The nodes of a tree, children first, and what comes of each."""

    def __init__(self, frames, nodes):
        self.nodes = nodes
        self.frames = [frames[kind] for kind, _ in nodes]
        # Sizes and depths are told ahead of the trees: what is dropped may be far too large.
        self.sizes = []
        self.depths = []
        for frame, (_, kids) in zip(self.frames, nodes):
            self.sizes.append(_size_of(frame, [self.sizes[kid] for kid in kids]))
            self.depths.append(_depth_of(frame, [self.depths[kid] for kid in kids]))

    def told(self):
        """What comes of the whole tree; TooMany if it is too large, then if it is too deep."""
        if self.sizes[-1] > MOST_NODES:
            raise TooMany(MOST_NODES)
        if self.depths[-1] > MOST_LEVELS:
            raise TooMany(MOST_LEVELS)
        made = []
        for wanted, frame, (_, kids) in zip(self._wanted(), self.frames, self.nodes):
            made.append(_put_in(frame, [made[kid] for kid in kids]) if wanted else None)
        return made[-1]

    def _wanted(self):
        """For each node whether what comes of it comes into the whole."""
        wanted = [False] * (len(self.nodes) - 1) + [True]
        for node in range(len(self.nodes) - 1, -1, -1):
            if wanted[node]:
                for number in _numbers_in(self.frames[node]):
                    wanted[self.nodes[node][1][number]] = True
        return wanted


def _size_of(frame, below):
    if not isinstance(frame, tuple):
        return below[frame]
    return 1 + sum([_size_of(part, below) for part in frame[1:]])


def _depth_of(frame, below):
    if not isinstance(frame, tuple):
        return below[frame]
    return 1 + max([_depth_of(part, below) for part in frame[1:]], default=0)


def _numbers_in(frame):
    if not isinstance(frame, tuple):
        return [frame]
    return [number for part in frame[1:] for number in _numbers_in(part)]


def _put_in(frame, below):
    if not isinstance(frame, tuple):
        return below[frame]
    return (frame[0],) + tuple([_put_in(part, below) for part in frame[1:]])


def coming_into(kinds, frames, trees):
    """The least set of the trees of kinds that map to trees in the set."""
    check_kinds(kinds)
    check_set(trees)
    check_map(kinds, trees[1], frames)
    numbers = {pair[0]: number for number, pair in enumerate(trees[1])}

    def step(kind, states):
        return _state_of(trees, numbers, frames[kind], states)

    def crowd(many):
        # What is met are states of the set, never more than are let.
        check_many_goals(kinds, many, _MOST_GOALS)

    keys = walk(kinds, step, crowd)
    takes = tuple([number for number, state in enumerate(keys) if state in trees[4]])
    return least_of(("set", kinds, len(keys), rows_of(kinds, keys, step), takes))


def _state_of(trees, numbers, frame, states):
    """The state of what a frame makes of trees of some states."""
    if not isinstance(frame, tuple):
        return states[frame]
    below = [_state_of(trees, numbers, part, states) for part in frame[1:]]
    return trees[3][numbers[frame[0]]][place_of(trees[2], below)]
