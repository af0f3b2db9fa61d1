"""Which nodes of trees the letters come from, and whether two readers are the same in this too."""

from samewriting.codes import same_texts
from samewriting.errors import BadKinds, BadTree, NotLetBy, OtherKinds, TooMany
from samewriting.gathering import MOST_LETTERS
from samewriting.joins import least_of
from samewriting.pieces import pressed_within
from samewriting.readers import Reading, check_reader, states_with_end
from samewriting.sameness import check_reach
from samewriting.trees import check_tree, fits, is_kinds
from samewriting.walks import check_many_goals, tuples_below

_MARK = "q"
_MOST_KINDS = 3
_MOST_IN_NAME = 7
_MOST_GOALS = 4000


def origins(reader, tree):
    """For each letter written a pair (letter, path to the node whose row said it, None for the end)."""
    check_reader(reader)
    check_tree(reader[1][1], tree)
    reading = Reading(reader, tree)
    if reading.end is None:
        raise NotLetBy("the state of the tree has no end")
    gathering = reading.gathering
    top = len(gathering.nodes) - 1
    if gathering.length_of(reading.end, [top]) > MOST_LETTERS:
        raise TooMany(MOST_LETTERS)
    paths = _paths_of(gathering.nodes)
    told = []
    # Each waits as (pieces, children, the path of who says them); what is first is last.
    waiting = [(reading.end, [top], None)]
    while waiting:
        pieces, kids, path = waiting.pop()
        for place, item in enumerate(pieces):
            if item[0] == "say":
                told.extend([(letter, path) for letter in item[1]])
            elif gathering.lengths[kids[item[1]]][item[2]] > 0:
                node = kids[item[1]]
                waiting.append((pieces[place + 1:], kids, path))
                waiting.append((gathering.rows[node][item[2]], gathering.nodes[node][1], paths[node]))
                break
    return tuple(told)


def _paths_of(nodes):
    """The paths to the nodes of a tree, told as in listed."""
    paths = [()] * len(nodes)
    for number in range(len(nodes) - 1, -1, -1):
        for step, kid in enumerate(nodes[number][1]):
            paths[kid] = paths[number] + (step,)
    return paths


def marked_kinds(kinds):
    """The kinds, and for each one another one for nodes that are marked."""
    _check_markable(kinds)
    return _marked(kinds)


def _check_markable(kinds):
    """Raise BadKinds unless these are kinds to which marked ones can be added."""
    if not is_kinds(kinds) or len(kinds) > _MOST_KINDS:
        raise BadKinds("not at most 3 kinds")
    names = [name for name, _ in kinds]
    if any([len(name) > _MOST_IN_NAME or name + _MARK in names for name in names]):
        raise BadKinds("a marked name would be too long, or another one")


def _marked(kinds):
    return tuple(sorted([(name + mark, rank) for name, rank in kinds for mark in ("", _MARK)]))


def _bare_kinds(kinds):
    """For each marked kind in order (number of the kind that it comes of, whether it is marked)."""
    numbers = {}
    for number, pair in enumerate(kinds):
        numbers[pair[0]] = (number, False)
        numbers[pair[0] + _MARK] = (number, True)
    return [numbers[name] for name, _ in _marked(kinds)]


def marked(reader):
    """The reader of the marked kinds that writes two letters for each one, the first one telling of marks."""
    check_reader(reader)
    _check_markable(reader[1][1])
    return _marked_reader(reader)


def _marked_reader(reader):
    _, trees, rooms, rows, ends = reader
    kinds = _marked(trees[1])
    check_many_goals(kinds, trees[2], _MOST_GOALS)
    told = []
    goals = []
    for number, is_marked in _bare_kinds(trees[1]):
        goals.append(trees[3][number])
        told.append(tuple([tuple([_doubled(pieces, is_marked) for pieces in held]) for held in rows[number]]))
    ends = tuple([None if end is None else _doubled(end, False) for end in ends])
    made = ("set", kinds, trees[2], tuple(goals), states_with_end(ends))
    return ("reader", made, rooms, tuple(told), ends)


def _doubled(pieces, is_marked):
    first = "b" if is_marked else "a"
    return pressed_within([("say", "".join([first + letter for letter in item[1]])) if item[0] == "say" else item
                           for item in pieces])


def one_mark(kinds):
    """The least set of the trees of the marked kinds with just one marked node."""
    _check_markable(kinds)
    return _one_mark(kinds)


def _one_mark(kinds):
    rows = []
    for number, is_marked in _bare_kinds(kinds):
        own = int(is_marked)
        # The states tell how many nodes are marked, 2 meaning more than one.
        rows.append(tuple([min(2, own + sum(states)) for states in tuples_below(3, kinds[number][1])]))
    return least_of(("set", _marked(kinds), 3, tuple(rows), (1,)))


def bared(kinds, tree):
    """The tree of kinds without the marks."""
    _check_markable(kinds)
    if not fits(_marked(kinds), tree):
        raise BadTree("no tree of the marked kinds")
    return _bare(dict(kinds), tree)


def _bare(ranks, tree):
    name = tree[0] if tree[0] in ranks else tree[0][:-1]
    return (name,) + tuple([_bare(ranks, child) for child in tree[1:]])


def same_origins(one, other, degree, size):
    """Whether both are the same with origins, as same_texts tells it of both with marks."""
    check_reader(one)
    check_reader(other)
    kinds = one[1][1]
    if kinds != other[1][1]:
        raise OtherKinds("not the same kinds")
    _check_markable(kinds)
    # Too many comes last, also where the readers are made ahead of the other checks.
    check_reach(degree, size)
    return same_texts(_marked_reader(one), _marked_reader(other), _one_mark(kinds), degree, size)
