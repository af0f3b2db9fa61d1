"""What is written around a part of a tree, whatever stands there, by its state."""

from samewriting.gathering import Gathering
from samewriting.sets import states_in
from samewriting.trees import listed
from samewriting.walks import place_of

_FIGURES = "01234567"


class Surroundings:
    """A tree without one part: the nodes beside the way to it are gathered once."""

    def __init__(self, reader, tree, path):
        self.reader = reader
        self.nodes = []
        # The nodes on the way, from the root on: (kind, numbers of the children, the step to the next one).
        self.way = []
        for step in path:
            kind, kids = self._beside(tree, step)
            self.way.append((kind, kids, step))
            tree = tree[step + 1]
        self.states = states_in(reader[1], self.nodes)
        self.gathering = Gathering(self.nodes)
        for kind, kids in self.nodes:
            self._gather(self.gathering, kind, [self.states[kid] for kid in kids])

    def _beside(self, tree, step):
        """The kind of a node on the way, and the numbers of its children, listed but for the one on the way."""
        kinds = self.reader[1][1]
        kids = []
        for place, child in enumerate(tree[1:]):
            if place == step:
                kids.append(None)
            else:
                moved = len(self.nodes)
                self.nodes.extend([(kind, [kid + moved for kid in below]) for kind, below in listed(kinds, child)])
                kids.append(len(self.nodes) - 1)
        return [pair[0] for pair in kinds].index(tree[0]), kids

    def _gather(self, gathering, kind, states):
        """Gather the next node; its state."""
        trees = self.reader[1]
        place = place_of(trees[2], states)
        gathering.gather(self.reader[3][kind][place])
        return trees[3][kind][place]

    def told_at(self, state):
        """What is written if the part has this state: None, or texts and numbers of rooms."""
        nodes = self.nodes + [(None, [])]
        states = self.states + [state]
        for kind, kids, step in reversed(self.way):
            nodes.append((kind, kids[:step] + [len(nodes) - 1] + kids[step + 1:]))
        gathering = Gathering(nodes)
        gathering.rows = list(self.gathering.rows)
        gathering.lengths = list(self.gathering.lengths)
        # A figure stands for a room of the part: so letters and rooms are counted, and put together, alike.
        gathering.gather([(("say", _FIGURES[room]),) for room in range(self.reader[2])])
        for kind, kids in nodes[len(self.nodes) + 1:]:
            states.append(self._gather(gathering, kind, [states[kid] for kid in kids]))
        end = self.reader[4][states[-1]]
        return None if end is None else _parted(gathering.text_of(end, [len(nodes) - 1]))


def _parted(letters):
    """Letters and figures as texts and numbers."""
    told = []
    begin = 0
    for place, letter in enumerate(letters):
        if letter in _FIGURES:
            if begin < place:
                told.append(letters[begin:place])
            told.append(_FIGURES.index(letter))
            begin = place + 1
    if begin < len(letters):
        told.append(letters[begin:])
    return tuple(told)
