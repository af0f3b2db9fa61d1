"""Powers of a few variables, packed into one number each.

As in `packed`, the degree stands on top, and the first variable's field is the highest one; but
only the variables at hand have fields, and these are wide: what bases go through may have degrees
far above those of polynomials that are told.
"""

_WIDTH = 24
_FIELD = (1 << 24) - 1


class Ring:
    """The polynomials in some variables, ascending."""

    def __init__(self, variables):
        self.variables = variables
        self.top = _WIDTH * len(variables)
        self.low = (1 << self.top) - 1
        self.guards = self.low // _FIELD << (_WIDTH - 1)
        self.units = {}
        for place, variable in enumerate(variables):
            self.units[variable] = (1 << self.top) + (1 << (self.top - _WIDTH * (place + 1)))

    def packed(self, polynomial):
        """A polynomial as a dict from packed powers to coefficients."""
        return {self.packed_powers(powers): number for powers, number in polynomial}

    def packed_powers(self, powers):
        """The packed number of powers."""
        return sum([power * self.units[variable] for variable, power in powers])

    def unpacked(self, terms):
        """The polynomial of a dict from packed powers to coefficients."""
        return tuple(sorted([(self.powers_of(mono), terms[mono]) for mono in terms]))

    def powers_of(self, mono):
        """The powers of a packed number."""
        found = []
        for place, variable in enumerate(self.variables):
            power = mono >> (self.top - _WIDTH * (place + 1)) & _FIELD
            if power:
                found.append((variable, power))
        return tuple(found)

    def degree(self, mono):
        """The degree of packed powers."""
        return mono >> self.top

    def highest_degree(self, terms):
        """The degree of a packed polynomial, 0 for none."""
        return max([self.degree(mono) for mono in terms], default=0)

    def divides(self, mono, other):
        """Whether the first packed powers divide the second ones."""
        return ((other | self.guards) - mono) & self.guards == self.guards

    def least_both(self, one, other):
        """The least packed powers that both divide."""
        own = one & self.low
        further = other & self.low
        # A guard stays where a field of the one is not below that of the other one.
        stays = ((own | self.guards) - further) & self.guards
        mask = stays - (stays >> (_WIDTH - 1))
        both = (own & mask) | (further & ~mask)
        return (both % _FIELD << self.top) + both
