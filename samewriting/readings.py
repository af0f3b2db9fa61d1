"""Which trees are written as a text."""

from samewriting.errors import BadText
from samewriting.marks import Marks
from samewriting.pieces import is_text
from samewriting.readers import check_reader
from samewriting.signgroves import SignGrove
from samewriting.trees import fits

_MOST_LETTERS = 40
_MOST_MARKS = 400


def readings(reader, text):
    """The least tree of which the reader writes the text, and the next one: two, one or none, as there are."""
    check_reader(reader)
    if not is_text(text) or len(text) > _MOST_LETTERS:
        raise BadText(None)
    marks = Marks(reader, text)
    grove = SignGrove(reader, marks, _MOST_MARKS, 2)
    grove.grow()
    found = [tree for tree in range(len(grove.heads)) if marks.is_written(grove.states[tree], grove.worths[tree])]
    told = []
    # Of the first tree both bounds count ahead of those of the second one.
    for tree in grove.least_of(found)[:2]:
        told.extend(grove.told([tree]))
    return tuple(told)


def is_read(reader, text, thing):
    """Whether any value is just what readings tells."""
    told = readings(reader, text)
    if not isinstance(thing, tuple) or not all([fits(reader[1][1], tree) for tree in thing]):
        return False
    return thing == told
