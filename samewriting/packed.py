"""Polynomials made ready for reckoning: dicts from powers, packed into one number, to coefficients.

A packed number has the degree on top, and below it a field of 12 bits for each variable, the first
variable highest. So the product of powers is the sum of their numbers, and the greater of two
powers, in the order of first terms, is the greater number. The fields hold powers below 2048: what
is put into polynomials of degree 40, and their products, keeps below that.
"""

_LOW = (1 << 768) - 1
_GUARDS = ((1 << 768) - 1) // 4095 * 2048


def unit(child, room):
    """The packed number of a variable, with the power 1."""
    return (1 << 768) + (1 << (12 * (63 - 16 * child - room)))


def packed_powers(powers, moved=0):
    """The packed number of powers, rooms moved by so many."""
    told = 0
    for (child, room), power in powers:
        told += power * unit(child, room + moved)
    return told


def degree_packed(mono):
    """The degree of packed powers."""
    return mono >> 768


def powers_packed(mono):
    """The powers of a packed number."""
    rest = mono & _LOW
    found = []
    while rest:
        field = (rest.bit_length() - 1) // 12
        power = rest >> (12 * field)
        found.append((divmod(63 - field, 16), power))
        rest -= power << (12 * field)
    return tuple(found)


def divides(mono, other):
    """Whether the first packed powers divide the second ones."""
    # A guard bit on top of each field goes exactly if something must be borrowed there.
    return ((other | _GUARDS) - mono) & _GUARDS == _GUARDS


def packed(polynomial, moved=0):
    """A polynomial as a dict from packed powers to coefficients, rooms moved by so many."""
    return {packed_powers(powers, moved): number for powers, number in polynomial}


def unpacked(terms):
    """The polynomial of a dict from packed powers to coefficients, none of them 0."""
    return tuple(sorted([(powers_packed(mono), terms[mono]) for mono in terms]))


def for_child(mono, child):
    """Packed powers of variables (0, room) told as those of (child, room)."""
    return (mono >> 768 << 768) + ((mono & _LOW) >> (192 * child))


def trimmed(terms, prime=0):
    """The terms with a coefficient that is not 0; remainders by a prime if one is told."""
    if prime:
        terms = {mono: terms[mono] % prime for mono in terms}
    return {mono: terms[mono] for mono in terms if terms[mono]}


def multiplied(one, other, prime=0):
    """The product of two packed polynomials."""
    few, many = (one, other) if len(one) <= len(other) else (other, one)
    told = {}
    for mono, number in few.items():
        add_times(told, many, mono, number)
    return trimmed(told, prime)


def add_times(told, terms, mono, number):
    """Add to a dict the terms, times a coefficient and packed powers; zeros may stay in it."""
    for key, worth in terms.items():
        both = key + mono
        told[both] = told.get(both, 0) + worth * number


def highest_degree(terms):
    """The degree of a packed polynomial, 0 for none."""
    return max([degree_packed(mono) for mono in terms], default=0)


def put(polynomial, worths, prime=0):
    """The packed polynomial with packed ones, by variable, in the place of variables, all at once."""
    kept = {}
    told = {}
    for powers, number in polynomial:
        mono = 0
        product = None
        for variable, power in powers:
            if variable not in worths:
                mono += power * unit(variable[0], variable[1])
            else:
                factor = _power_of(kept, worths, variable, power, prime)
                product = factor if product is None else multiplied(product, factor, prime)
        add_times(told, {0: 1} if product is None else product, mono, number)
    return trimmed(told, prime)


def _power_of(kept, worths, variable, power, prime):
    """The power of what is put in for a variable; lower ones are kept."""
    if variable not in kept:
        kept[variable] = [worths[variable]]
    row = kept[variable]
    while len(row) < power:
        row.append(multiplied(row[-1], worths[variable], prime))
    return row[power - 1]
