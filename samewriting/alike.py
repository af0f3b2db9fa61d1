"""Whether two templates are filled with the same, for all trees of a set."""

from samewriting.codes import same_texts
from samewriting.compiling import writer_from
from samewriting.sameness import check_reach
from samewriting.sets import check_set
from samewriting.templates import check_template
from samewriting.turning import reader_of


def same_templates(trees, one, other, degree, size):
    """What same_texts tells of both templates as readers, for the trees in the set."""
    check_set(trees)
    check_template(trees, one)
    check_template(trees, other)
    # Too many comes last, also where the readers are made ahead of the other checks.
    check_reach(degree, size)
    first = reader_of(writer_from(trees, one))
    second = reader_of(writer_from(trees, other))
    return same_texts(first, second, trees, degree, size)
