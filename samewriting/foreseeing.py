"""What is seen for sure of a basis ahead of making it in whole numbers, where that may take long.

Remainders alone tell nothing for sure. But rows of numbers that are independent by remainders are
independent. So forms (all powers of one degree) have, in whole numbers, at least as many multiples
of each degree that are independent as by remainders; and where first terms by remainders leave
little, little is left.
"""

from samewriting.basemaking import MOST_IN_BASIS, RemainderMaker, are_level, prime_for
from samewriting.rings import Ring
from samewriting.wholemaking import WholeMaker

ALL = "all"
MANY = "many"
NOTHING = ""

# No variable of a polynomial: it stands behind all of them.
_FURTHER = (4, 0)
_EASY_TURNS = 20000
_LONG_TURNS = 1000000


class CoverMaker(RemainderMaker):
    """Remainders of a basis of forms, made until no `most` variables are such that each first term has one of them."""

    def __init__(self, ring, given, prime, most):
        super().__init__(ring, given, prime)
        self.most = most
        self.supports = []
        self.cover = ()

    def keep(self, terms, sugar):
        """Keep a polynomial; the cover is changed if the new first term has none of its variables."""
        super().keep(terms, sugar)
        support = [variable for variable, _ in self.ring.powers_of(max(terms))]
        self.supports.append(support)
        if self.cover is not None and not any([variable in support for variable in self.cover]):
            self.cover = _cover_of(self.supports, self.most)

    def is_enough(self):
        """Whether there is no cover any more."""
        return self.cover is None


def _cover_of(supports, most):
    """At most so many variables of which each support has one; None if there are no such."""
    if not supports:
        return ()
    if most == 0:
        return None
    for variable in min(supports, key=len):
        told = _cover_of([support for support in supports if variable not in support], most - 1)
        if told is not None:
            return (variable,) + told
    return None


def foreseen(ring, given):
    """ALL if 1 is surely of the ideal, MANY if its basis surely has too many polynomials; NOTHING tells nothing."""
    given = [terms for terms in given if terms]
    if 0 in [max(terms) for terms in given]:
        return ALL
    prime = prime_for(given)
    if prime is None or are_level(ring, given):
        return NOTHING
    maker = RemainderMaker(ring, given, prime)
    if maker.run(_EASY_TURNS) is None or len(maker.active) > MOST_IN_BASIS:
        return MANY if _has_many(ring, given, prime) else NOTHING
    if maker.divisors[maker.active[0]][0] == 0 and _has_all(ring, given, prime):
        return ALL
    return NOTHING


def _has_all(ring, given, prime):
    """Whether it is seen that 1 is of the ideal.

    Let all be made forms by a further variable. If a power of each variable is a first term, all
    powers of some degree are sums of multiples, in whole numbers too, those of the further variable
    among them; and that is 1 of the polynomials as they were.
    """
    many = len(ring.variables)
    if len(given) <= many:
        return False
    wide = Ring(ring.variables + [_FURTHER])
    forms = [_levelled(ring, wide, terms) for terms in given]
    return CoverMaker(wide, forms, prime, many).run(_LONG_TURNS) is False


def _levelled(ring, wide, terms):
    """A form: each power times as much of the further variable as it lacks of the highest degree."""
    highest = ring.highest_degree(terms)
    told = {}
    for mono in terms:
        lack = highest - ring.degree(mono)
        told[wide.packed_powers(ring.powers_of(mono)) + lack * wide.units[_FURTHER]] = terms[mono]
    return told


def _has_many(ring, given, prime):
    """Whether it is seen that the basis has too many polynomials.

    If no fewer variables than there are polynomials cover the first terms of their highest forms,
    these forms are a regular sequence: then the first terms of the ideal are those of the forms.
    """
    if len(given) > len(ring.variables):
        return False
    forms = [_top_of(ring, terms) for terms in given]
    if WholeMaker(ring, forms, None, False).run(_EASY_TURNS) is not False:
        return False
    return CoverMaker(ring, forms, prime, len(given) - 1).run(_LONG_TURNS) is False


def _top_of(ring, terms):
    """The terms of the highest degree."""
    highest = ring.highest_degree(terms)
    return {mono: terms[mono] for mono in terms if ring.degree(mono) == highest}
