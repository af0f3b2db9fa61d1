"""Number readers: they fold trees into numbers, by polynomials."""

from samewriting.errors import BadNumbers, OtherKinds, TooMany
from samewriting.foldings import is_folding
from samewriting.polynomials import is_polynomial
from samewriting.sets import check_set, states_in
from samewriting.trees import check_tree, listed
from samewriting.values import is_between
from samewriting.valuing import Valuer
from samewriting.walks import pairs_met, place_of, tuples_below

MOST_DIGITS = 2000

GREATEST = 10 ** 40


def is_numbers(thing):
    """Whether any value is a number reader."""
    return is_folding(thing, "numbers", _is_over)


def _is_over(thing, rank, rooms):
    """Whether any value is a polynomial in rooms of so many children, its coefficients within the bounds."""
    if not is_polynomial(thing):
        return False
    for powers, number in thing:
        if not is_between(number, -GREATEST, GREATEST):
            return False
        if not all([child < rank and room < rooms for (child, room), _ in powers]):
            return False
    return True


def check_numbers(numbers):
    """Raise BadNumbers unless this is a number reader."""
    if not is_numbers(numbers):
        raise BadNumbers("no number reader")


def valuer_of(numbers):
    """The valuer of a number reader alone."""
    return Valuer(numbers, list(range(numbers[1][2])), 0)


def worths(numbers, tree):
    """The worths of the rooms of a tree."""
    check_numbers(numbers)
    check_tree(numbers[1][1], tree)
    return worths_within(numbers, tree)[1]


def worths_within(numbers, tree):
    """The state and the worths of what surely is a tree of the kinds; TooMany for too many digits."""
    valuer = valuer_of(numbers)
    nodes = listed(numbers[1][1], tree)
    states = states_in(numbers[1], nodes)
    found = []
    for kind, kids in nodes:
        row = valuer.worths_at(kind, [states[kid] for kid in kids], [found[kid] for kid in kids])
        check_digits(row)
        found.append(row)
    return states[-1], tuple(found[-1])


def check_digits(row):
    """Raise TooMany if a number in the row has more than 2000 digits."""
    # A number below 2 ** 6600 has not so many: the bound itself is wanted seldom.
    if max([abs(number).bit_length() for number in row], default=0) > 6600:
        bound = 1
        for _ in range(MOST_DIGITS // 50):
            bound *= 10 ** 50
        if max([abs(number) for number in row]) >= bound:
            raise TooMany(MOST_DIGITS)


def number_told(numbers, tree):
    """The number told of a tree, None if it is not let by."""
    check_numbers(numbers)
    check_tree(numbers[1][1], tree)
    state, found = worths_within(numbers, tree)
    told = valuer_of(numbers).end_at(state, found)
    if told is not None:
        check_digits([told])
    return told


def kept(numbers, trees):
    """The number reader that lets by the trees in the set alone, and tells the same of them."""
    check_numbers(numbers)
    check_set(trees)
    if numbers[1][1] != trees[1]:
        raise OtherKinds("not the same kinds")
    return kept_of(numbers, trees)


def kept_of(numbers, trees):
    """As kept, of what surely is a number reader and a set of its kinds."""
    own = numbers[1]
    pairs, goals = pairs_met(own, trees, 60, 4000)
    takes = tuple([number for number, pair in enumerate(pairs) if pair[1] in trees[4]])
    rows = []
    for kind, pair in enumerate(own[1]):
        places = [place_of(own[2], [pairs[number][0] for number in numbers_below])
                  for numbers_below in tuples_below(len(pairs), pair[1])]
        rows.append(tuple([numbers[3][kind][place] for place in places]))
    ends = [numbers[4][first] if second in trees[4] else None for first, second in pairs]
    return ("numbers", ("set", own[1], len(pairs), goals, takes), numbers[2], tuple(rows), tuple(ends))
