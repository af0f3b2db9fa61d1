"""Types of readers: whether all texts that they write are taken by a word machine."""

from samewriting.effects import Effects, Signs
from samewriting.errors import TooMany
from samewriting.joins import least_of
from samewriting.readers import check_reader
from samewriting.sets import states_in
from samewriting.signgroves import SignGrove
from samewriting.trees import fits, listed
from samewriting.values import is_between, is_rising, is_row, is_word
from samewriting.walks import goals_in, place_of, tuples_below
from samewriting.wordmachines import check_words

_MOST_SIGNS = 400
_MOST_STATES = 60
_MOST_GOALS = 4000


def _check_both(reader, words):
    check_reader(reader)
    check_words(words)


def grown_signs(reader, rows, most):
    """The least trees of all signs, goals of rows told by effects; TooMany if there are too many signs."""
    grove = SignGrove(reader, Signs(reader, Effects(rows)), most)
    grove.grow()
    return grove


def check_goals(grove):
    """Raise TooMany if a set with the signs as states would have too many goals."""
    if goals_in(grove.kinds, len(grove.heads)) > _MOST_GOALS:
        raise TooMany(_MOST_GOALS)


def _signs_told(grove):
    found = grove.signs.effects.found
    return tuple(sorted([(state, tuple([found[room] for room in rooms])) for state, rooms in grove.numbers]))


def signs(reader, words):
    """The signs of all trees, ascending."""
    _check_both(reader, words)
    return _signs_told(grown_signs(reader, words[1], _MOST_SIGNS))


def within(reader, words):
    """The least set of the trees that the reader lets by and whose text is taken."""
    _check_both(reader, words)
    grove = grown_signs(reader, words[1], _MOST_STATES)
    check_goals(grove)
    many = len(grove.heads)
    rows = [tuple([_goal_at(grove, kind, trees) for trees in tuples_below(many, pair[1])])
            for kind, pair in enumerate(grove.kinds)]
    takes = tuple([tree for tree in range(many) if _is_taken(grove, words, tree) is True])
    return least_of(("set", grove.kinds, many, tuple(rows), takes))


def _goal_at(grove, kind, trees):
    """The number of the sign of a tree, by those of its children."""
    place = place_of(grove.many, [grove.states[tree] for tree in trees])
    rooms = grove.signs.rooms_at(kind, place, [grove.worths[tree] for tree in trees])
    return grove.numbers[(grove.rows[kind][place], rooms)]


def _is_taken(grove, words, tree):
    """Whether what is written of trees of a sign is taken, None if they are not let by."""
    told = grove.signs.end_at(grove.states[tree], grove.worths[tree])
    return None if told is None else grove.signs.effects.found[told][0] in words[2]


def always(reader, words):
    """("always", signs), or ("not", tree), the least tree that is let by and whose text is not taken."""
    _check_both(reader, words)
    grove = grown_signs(reader, words[1], _MOST_SIGNS)
    wrong = [tree for tree in range(len(grove.heads)) if _is_taken(grove, words, tree) is False]
    if wrong:
        return ("not", grove.told(grove.least_of(wrong)[:1])[0])
    return ("always", _signs_told(grove))


def is_answer(reader, words, thing):
    """Whether any value tells that all texts of trees that are let by are taken, or a tree whose text is not."""
    _check_both(reader, words)
    if not is_row(thing, 2):
        return False
    if is_word(thing[0], "not"):
        return fits(reader[1][1], thing[1]) and _is_wrong(reader, words, thing[1])
    return is_word(thing[0], "always") and _are_signs(reader, words, thing[1]) and _is_closed(reader, words, thing[1])


def _is_wrong(reader, words, tree):
    """Whether a tree is let by and its text is not taken."""
    made = Signs(reader, Effects(words[1]))
    nodes = listed(reader[1][1], tree)
    states = states_in(reader[1], nodes)
    rooms = []
    for kind, kids in nodes:
        place = place_of(reader[1][2], [states[kid] for kid in kids])
        rooms.append(made.rooms_at(kind, place, [rooms[kid] for kid in kids]))
    told = made.end_at(states[-1], rooms[-1])
    return told is not None and made.effects.found[told][0] not in words[2]


def _are_signs(reader, words, thing):
    """Whether any value is an ascending tuple of what may be signs."""
    if not isinstance(thing, tuple):
        return False
    for sign in thing:
        if not is_row(sign, 2) or not is_between(sign[0], 0, reader[1][2] - 1) or not is_row(sign[1], reader[2]):
            return False
        if not all([_is_effect(room, len(words[1])) for room in sign[1]]):
            return False
    return is_rising(thing)


def _is_effect(thing, many):
    return is_row(thing, many) and all([is_between(row, 0, many - 1) for row in thing])


def _is_closed(reader, words, some):
    """Whether the signs of trees with children's signs among some are among them, and all texts of ends are taken."""
    made = Signs(reader, Effects(words[1]))
    by_state = {state: {} for state in range(reader[1][2])}
    for state, rooms in some:
        by_state[state][tuple([made.effects.number_of(room) for room in rooms])] = True
    for state, row in by_state.items():
        for rooms in row:
            told = made.end_at(state, rooms)
            if told is not None and made.effects.found[told][0] not in words[2]:
                return False
    for kind, pair in enumerate(reader[1][1]):
        for place, states in enumerate(tuples_below(reader[1][2], pair[1])):
            goals = by_state[reader[1][3][kind][place]]
            if not all([rooms in goals for rooms in _all_at(made, kind, place, [by_state[state] for state in states])]):
                return False
    return True


def _all_at(made, kind, place, lists):
    """What the rooms of trees of a row hold, for any children with rooms out of these."""
    forms = {made.begun(kind, place): True}
    for child, row in enumerate(lists):
        forms = {made.put_in(kind, place, child, form, rooms): True for form in forms for rooms in row}
    return [made.done(form) for form in forms]
