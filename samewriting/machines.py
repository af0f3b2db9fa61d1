"""Machines that read letters: what they meet, and the ones with fewest rows."""

LETTERS = "abc"


def reached(first, step):
    """The keys met from the first one on, row by row, a ahead of b ahead of c, and the rows of their numbers."""
    keys = [first]
    known = {first: 0}
    rows = []
    while len(rows) < len(keys):
        row = []
        for letter in range(len(LETTERS)):
            goal = step(keys[len(rows)], letter)
            if goal not in known:
                known[goal] = len(keys)
                keys.append(goal)
            row.append(known[goal])
        rows.append(tuple(row))
    return keys, tuple(rows)


def least_machine(rows, takes):
    """The rows and takes of the machine with fewest rows that takes the same texts from row 0 on."""
    lots = _lots_of(rows, takes)
    standing = {}
    for row, lot in enumerate(lots):
        standing.setdefault(lot, row)

    def step(lot, letter):
        return lots[rows[standing[lot]][letter]]

    keys, told = reached(lots[0], step)
    return told, tuple([number for number, lot in enumerate(keys) if standing[lot] in takes])


def _lots_of(rows, takes):
    """For each row the number of its lot: from rows of one lot the same texts are taken."""
    lots = [int(row in takes) for row in range(len(rows))]
    many = 0
    while len(set(lots)) > many:
        many = len(set(lots))
        numbers = {}
        signs = [(lots[row],) + tuple([lots[goal] for goal in rows[row]]) for row in range(len(rows))]
        for sign in signs:
            numbers.setdefault(sign, len(numbers))
        lots = [numbers[sign] for sign in signs]
    return lots
