"""Loops of a reader: steps that lead back, along which a room is put in again and again, or several times."""

from samewriting.components import Components, way_to

_FEW = 20


class Loops:
    """Looks for a loop among the rooms of use. The nodes are a state with one room, with two, or with three.

    `links` are (state, goal, numbers, step), as in steps.Steps; of rooms only those of use are gone through.
    """

    def __init__(self, links, rooms_of_use):
        self.by_state = {}
        for state, goal, numbers, step in links:
            goals = [tuple([pair for pair in row if (goal, pair[0]) in rooms_of_use]) for row in numbers]
            self.by_state.setdefault(state, []).append((goal, goals, step))
        self.nodes = list(rooms_of_use)
        components = Components(self._rooms_behind)
        for node in self.nodes:
            components.look_from(node)
        # For each link (goal, for each room those that lead back to it, for each room all, step).
        self.links = {state: [self._near(components.numbers, state, link) for link in self.by_state[state]]
                      for state in self.by_state}

    def _near(self, numbers, state, link):
        goal, rows, step = link
        near = []
        for room, row in enumerate(rows):
            own = numbers.get((state, room))
            near.append([other for other, _ in row if numbers[(goal, other)] == own])
        return goal, near, [[other for other, _ in row] for row in rows], step

    def _rooms_behind(self, node):
        state, room = node
        return [(goal, other) for goal, rows, _ in self.by_state.get(state, []) for other, _ in rows[room]]

    def any_loop(self):
        """A loop, None if there is none."""
        return self._near_at_hand() or self._doubling() or self._adding()

    def _near_at_hand(self):
        """A loop that is found soon, where there are many: a room comes into two ones that come back to it."""
        for state, room in self.nodes[:_FEW]:
            start = (state, room, room)
            for step, node in self._pair_edges(start):
                if node[1] != node[2]:
                    way = way_to(node, start, self._pair_edges, _FEW)
                    if way is not None:
                        return (state, room, room, (step,) + tuple(way))
                    break
        return None

    def _pair_edges(self, node):
        """Two rooms go along the same steps, and may come back: (step, node)."""
        state, first, second = node
        return [(step, (goal, one, other)) for goal, near, _, step in self.links.get(state, [])
                for one in near[first] for other in near[second]]

    def _pairs_behind(self, node):
        return list({goal: True for _, goal in self._pair_edges(node)})

    def _doubling(self):
        """A loop along which a room comes into itself twice at least."""
        components = Components(self._pairs_behind)
        for state, room in self.nodes:
            components.look_from((state, room, room))
        numbers = components.numbers
        whole = {}
        for node in numbers:
            if node[1] == node[2]:
                whole.setdefault(numbers[node], node)
        for node in numbers:
            start = whole.get(numbers[node])
            if start is not None:
                # Two unlike rooms, to which a room comes, come back to it; or it is twice at once in the next.
                way = [] if node[1] != node[2] else self._double_step(node, numbers)
                if way is not None:
                    steps = self._around(start, node, way)
                    return (start[0], start[1], start[1], tuple(steps))
        return None

    def _double_step(self, node, numbers):
        """A pair (step, node) in which a room stands twice, leading back, None if there is none."""
        state, room, _ = node
        for goal, rows, step in self.by_state.get(state, []):
            for other, many in rows[room]:
                if many > 1 and numbers.get((goal, other, other)) == numbers[node]:
                    return step, (goal, other, other)
        return None

    def _around(self, start, node, way):
        """The steps from a pair over another one back to it."""
        there = [] if node == start else way_to(start, node, self._pair_edges)
        if not way:
            return there + way_to(node, start, self._pair_edges)
        step, behind = way
        return there + [step] + ([] if behind == start else way_to(behind, start, self._pair_edges))

    def _triple_edges(self, node):
        """One room comes back to itself, another one too, and one goes from the one to the other: (step, node)."""
        state, first, middle, last = node
        found = [(step, (goal, one, between, other)) for goal, near, rows, step in self.links.get(state, [])
                 for one in near[first] for other in near[last] for between in rows[middle]]
        if middle == last and first != last:
            # Once there, another one may be on its way: several such loops make one.
            found.append((None, (state, first, first, last)))
        return found

    def _triples_behind(self, node):
        return list({goal: True for _, goal in self._triple_edges(node)})

    def _adding(self):
        """A loop along which a room comes into itself and into another one that comes into itself."""
        components = Components(self._triples_behind)
        for state, first in self.nodes:
            for other, last in self.nodes:
                if other == state and first != last:
                    begin = (state, first, first, last)
                    end = (state, first, last, last)
                    components.look_from(begin)
                    if end in components.numbers and components.numbers[end] == components.numbers[begin]:
                        steps = way_to(begin, end, self._triple_edges)
                        return (state, first, last, tuple([step for step in steps if step is not None]))
        return None
