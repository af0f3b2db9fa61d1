"""Lots of states that cannot be told apart: by what they are marked with, and by where rows lead from them."""

from samewriting.walks import place_of, tuples_below


def lots_of(trees, met, marks, row_marks):
    """For each state met the number of its lot.

    States of one lot have equal marks, and rows that differ in states of one lot alone lead to one
    lot and have equal row marks: for each kind one for each row, or None where there are none.
    """
    lot = _numbered(met, marks)
    many = 0
    while len(set(list(lot.values()))) > many:
        many = len(set(list(lot.values())))
        lot = _numbered(met, _signs_of(trees, met, lot, row_marks))
    return lot


def _numbered(met, signs):
    numbers = {}
    for state in met:
        numbers.setdefault(signs[state], len(numbers))
    return {state: numbers[signs[state]] for state in met}


def _signs_of(trees, met, lot, row_marks):
    """For each state met its lot and those of all goals that it leads to, in one sequence for all states."""
    signs = {state: [lot[state]] for state in met}
    for kind, pair in enumerate(trees[1]):
        row = trees[3][kind]
        marks = None if row_marks is None else row_marks[kind]
        beside = tuples_below(len(met), pair[1] - 1) if pair[1] > 0 else []
        for spot in range(pair[1]):
            for places in beside:
                states = [met[place] for place in places]
                for state in met:
                    place = place_of(trees[2], states[:spot] + [state] + states[spot:])
                    signs[state].append(lot[row[place]])
                    if marks is not None:
                        signs[state].append(marks[place])
    return {state: tuple(signs[state]) for state in signs}
