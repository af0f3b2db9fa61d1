"""Templates as writers, and writers as templates."""

from samewriting.errors import BadWriter, TooMany
from samewriting.pieces import pressed, pressed_within
from samewriting.plainly import plain_of
from samewriting.sets import check_set
from samewriting.templates import MOST_IFS, MOST_IN_ALL, check_template
from samewriting.walks import place_of, tuples_below
from samewriting.writers import check_writer


def writer_of(trees, template):
    """The writer that writes of each tree in the set what the template is filled with."""
    check_set(trees)
    check_template(trees, template)
    return writer_from(trees, template)


def writer_from(trees, template):
    """As writer_of, of what surely is a template of the set."""
    kinds = trees[1]
    rows = []
    for block in plain_of(kinds, template):
        row = []
        for pair, body in zip(kinds, block):
            row.append(tuple([pressed_within(due_items(body, states)) for states in tuples_below(trees[2], pair[1])]))
        rows.append(tuple(row))
    return ("writer", kinds, trees, tuple(rows))


def due_items(body, states):
    """The items of a body without for, for children of these states, calls told as those of writers."""
    told = []
    for item in body:
        if item[0] == "if":
            told.extend(due_items(item[3] if states[item[1]] in item[2] else item[4], states))
        elif item[0] == "call":
            told.append(("call", item[2], item[1]))
        else:
            told.append(item)
    return told


def as_template(writer):
    """The template of the set ahead whose blocks are the own states."""
    check_writer(writer)
    _, kinds, ahead, rows = writer
    if None in [rule for own in rows for rules in own for rule in rules]:
        raise BadWriter("an own state has no rule for some tree")
    bodies = Bodies(ahead[2])
    blocks = []
    for own in rows:
        blocks.append([bodies.for_kind(pair[1], rules) for pair, rules in zip(kinds, own)])
    if sum([bodies.sizes[body] for block in blocks for body in block]) > MOST_IN_ALL:
        raise TooMany(MOST_IN_ALL)
    if max([bodies.ifs[body] for block in blocks for body in block]) > MOST_IFS:
        raise TooMany(MOST_IFS)
    return tuple([tuple([bodies.told(body) for body in block]) for block in blocks])


class Bodies:
    """Bodies made of the rules for tuples of states; equal ones are made once, and told by a number."""

    def __init__(self, many):
        self.many = many
        self.numbers = {}
        self.recipes = []
        self.sizes = []
        self.ifs = []

    def for_kind(self, rank, rules):
        """The body for a kind of this rank."""
        return self._for_states(rank, rules, ())

    def _for_states(self, rank, rules, states):
        if len(states) == rank:
            return self._of_pieces(rules[place_of(self.many, states)])
        row = [self._for_states(rank, rules, states + (state,)) for state in range(self.many)]
        lots = {}
        for state, body in enumerate(row):
            lots.setdefault(body, []).append(state)
        bodies = list(lots)
        told = bodies.pop()
        # The states of the least body stand outermost.
        for body in reversed(bodies):
            told = self._of_if(len(states), tuple(lots[body]), body, told)
        return told

    def _of_pieces(self, rule):
        items = tuple([item if item[0] == "say" else ("call", item[2], item[1]) for item in pressed(rule)])
        return self._kept(items, len(items), 0)

    def _of_if(self, child, states, body, other):
        items = 1 + self.sizes[body] + self.sizes[other]
        ifs = 1 + max(self.ifs[body], self.ifs[other])
        return self._kept((child, states, body, other), items, ifs)

    def _kept(self, recipe, items, ifs):
        if recipe not in self.numbers:
            self.numbers[recipe] = len(self.recipes)
            self.recipes.append(recipe)
            self.sizes.append(items)
            self.ifs.append(ifs)
        return self.numbers[recipe]

    def told(self, body):
        """The body with this number."""
        recipe = self.recipes[body]
        if self.ifs[body] == 0:
            return recipe
        child, states, within, other = recipe
        return (("if", child, states, self.told(within), self.told(other)),)
