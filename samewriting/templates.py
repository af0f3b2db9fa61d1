"""Templates: texts with calls, conditions and loops, for each kind of tree."""

from samewriting.errors import BadTemplate
from samewriting.pieces import MOST_ITEMS, MOST_SAID, is_say, is_text
from samewriting.sets import check_set
from samewriting.values import is_between, is_rising_below, is_row, is_word

MOST_BLOCKS = 8
MOST_IN_ALL = 100
MOST_IFS = 12
MOST_BETWEEN = 8


def is_template(trees, thing):
    """Whether any value is a template of a set."""
    check_set(trees)
    return _fits(trees, thing)


def _fits(trees, thing):
    """Whether any value is a template of what surely is a set."""
    kinds = trees[1]
    if not isinstance(thing, tuple) or not 1 <= len(thing) <= MOST_BLOCKS:
        return False
    if not all([is_row(block, len(kinds)) for block in thing]):
        return False
    bodies = [(pair[1], body) for block in thing for pair, body in zip(kinds, block)]
    items = 0
    # Level by level: bodies that share parts may be endless many, so the walk ends at the bounds.
    for _ in range(MOST_IFS + 1):
        if not all([_is_body(trees, rank, body, len(thing)) for rank, body in bodies]):
            return False
        items += sum([len(body) for _, body in bodies])
        if items > MOST_IN_ALL:
            return False
        bodies = [(rank, within) for rank, body in bodies for item in body if item[0] == "if" for within in item[3:]]
    return not bodies


def _is_body(trees, rank, thing, blocks):
    """Whether any value is a body, what its ifs have in them left out."""
    if not isinstance(thing, tuple) or len(thing) > MOST_ITEMS:
        return False
    if not all([_is_item(trees, rank, item, blocks) for item in thing]):
        return False
    for before, after in zip(thing, thing[1:]):
        if before[0] == "say" and after[0] == "say" and len(before[1]) < MOST_SAID:
            return False
    return True


def _is_item(trees, rank, thing, blocks):
    return is_say(thing) or _is_call(rank, thing, blocks) or _is_if(trees, rank, thing) \
        or _is_for(trees, rank, thing, blocks)


def _is_call(rank, thing, blocks):
    return is_row(thing, 3) and is_word(thing[0], "call") and is_between(thing[1], 0, blocks - 1) \
        and is_between(thing[2], 0, rank - 1)


def _is_if(trees, rank, thing):
    if not is_row(thing, 5) or not is_word(thing[0], "if") or not is_between(thing[1], 0, rank - 1):
        return False
    return is_rising_below(thing[2], trees[2]) and len(thing[2]) > 0


def _is_for(trees, rank, thing, blocks):
    if not is_row(thing, 6) or not is_word(thing[0], "for") or not isinstance(thing[1], str):
        return False
    if (thing[1], 2) not in trees[1] or not is_between(thing[2], 0, rank - 1):
        return False
    return is_between(thing[3], 0, blocks - 1) and all([_is_short_text(text) for text in thing[4:]])


def _is_short_text(thing):
    return is_text(thing) and len(thing) <= MOST_BETWEEN


def check_template(trees, template):
    """Raise BadTemplate unless this is a template of what surely is a set."""
    if not _fits(trees, template):
        raise BadTemplate("no template of the set")


def items_in(trees, template):
    """How many items a template has in all."""
    check_set(trees)
    check_template(trees, template)
    return items_of(template)


def items_of(template):
    """How many items the bodies of some blocks have in all."""
    return sum([_items_in_body(body) for block in template for body in block])


def _items_in_body(body):
    return len(body) + sum([_items_in_body(within) for item in body if item[0] == "if" for within in item[3:]])
