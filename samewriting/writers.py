"""Writers: they write texts of trees, called from the root down, looking ahead."""

from samewriting.errors import BadState, BadWriter
from samewriting.gathering import Gathering
from samewriting.pieces import are_pieces
from samewriting.sets import is_set, states_in
from samewriting.trees import check_tree, is_kinds, listed
from samewriting.values import is_between, is_row, is_word
from samewriting.walks import place_of


def is_writer(thing):
    """Whether any value is a writer."""
    if not is_row(thing, 4) or not is_word(thing[0], "writer"):
        return False
    kinds, ahead, rows = thing[1:]
    if not is_kinds(kinds) or not is_set(ahead) or kinds != ahead[1]:
        return False
    if not isinstance(rows, tuple) or not 1 <= len(rows) <= 8:
        return False
    return all([_are_rules(own, ahead, len(rows)) for own in rows])


def _are_rules(thing, ahead, many):
    """Whether any value is the rules of one of so many own states."""
    if not is_row(thing, len(ahead[1])):
        return False
    for pair, goals, rules in zip(ahead[1], ahead[3], thing):
        if not is_row(rules, len(goals)):
            return False
        if not all([rule is None or are_pieces(rule, "call", pair[1], many) for rule in rules]):
            return False
    return True


def check_writer(writer):
    """Raise BadWriter unless this is a writer."""
    if not is_writer(writer):
        raise BadWriter("no writer")


def called(writer, state, tree):
    """What an own state writes of a tree, None if the tree is not good for it."""
    check_writer(writer)
    _, kinds, ahead, rows = writer
    if not is_between(state, 0, len(rows) - 1):
        raise BadState("no own state")
    check_tree(kinds, tree)
    nodes = listed(kinds, tree)
    states = states_in(ahead, nodes)
    gathering = Gathering(nodes)
    for kind, kids in nodes:
        place = place_of(ahead[2], [states[kid] for kid in kids])
        rules = [own[kind][place] for own in rows]
        gathering.gather([rule if _is_good(gathering, rule, kids) else None for rule in rules])
    rule = gathering.rows[-1][state]
    return None if rule is None else gathering.text_of(rule, nodes[-1][1])


def _is_good(gathering, rule, kids):
    """Whether a rule can be followed, the children being nodes that were told ahead."""
    if rule is None:
        return False
    return all([gathering.rows[kids[item[1]]][item[2]] is not None for item in rule if item[0] == "call"])
