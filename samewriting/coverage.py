"""Which bodies of a template are ever gone through, and the template without the others."""

from samewriting.pieces import pressed_within
from samewriting.reaching import Reaching
from samewriting.sets import check_set
from samewriting.templates import check_template


def coverage(trees, template):
    """For each place of a body the least tree in the set that comes to it, None if none does."""
    check_set(trees)
    check_template(trees, template)
    return _coverage(trees, template)


def _coverage(trees, template):
    reaching = Reaching(trees, template)
    places = []
    for block, bodies in enumerate(template):
        for kind, body in enumerate(bodies):
            _find_places((block, kind), body, places)
    found = [(place, reaching.least_at(place)) for place in sorted(places)]
    live = [place for place, tree in found if tree is not None]
    told = dict(zip(live, reaching.grove.told([tree for _, tree in found if tree is not None])))
    return tuple([(place, told.get(place)) for place, _ in found])


def _find_places(place, body, places):
    places.append(place)
    for index, item in enumerate(body):
        if item[0] == "if":
            for way in range(2):
                _find_places(place + (index, way), item[3 + way], places)


def pruned(trees, template):
    """The template without what is never gone through: it is filled likewise."""
    check_set(trees)
    check_template(trees, template)
    dead = {place: True for place, tree in _coverage(trees, template) if tree is None}
    return tuple([tuple([_pruned_body(dead, (block, kind), body) for kind, body in enumerate(bodies)])
                  for block, bodies in enumerate(template)])


def _pruned_body(dead, place, body):
    if place in dead:
        return ()
    told = []
    for index, item in enumerate(body):
        if item[0] == "if":
            ways = [place + (index, way) for way in range(2)]
            within = [_pruned_body(dead, way, item[3 + number]) for number, way in enumerate(ways)]
            if ways[0] in dead or ways[1] in dead:
                # One of both is gone through wherever the if stands.
                told.extend(within[0] if ways[1] in dead else within[1])
            else:
                told.append(item[:3] + tuple(within))
        else:
            told.append(item)
    return pressed_within(told)
