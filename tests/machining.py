"""Word machines, scribes and signs by the words of the document, and random ones."""

import itertools

from helpers import plain_state
from templating import plain_rooms, random_text


def texts_to(many):
    return ["".join(letters) for length in range(many + 1) for letters in itertools.product("abc", repeat=length)]


def plain_row(rows, row, text):
    for letter in text:
        row = rows[row]["abc".index(letter)]
    return row


def plain_takes(words, text):
    return plain_row(words[1], 0, text) in words[2]


def plain_scribed(scribe, text):
    row, told = 0, ""
    for letter in text:
        row, letters = scribe[1][row]["abc".index(letter)]
        told += letters
    return None if scribe[2][row] is None else told + scribe[2][row]


def plain_sign(reader, rows, tree):
    """The state of a tree and the effects of its rooms."""
    return (plain_state(reader[1], tree),
            tuple(tuple(plain_row(rows, row, text) for row in range(len(rows))) for text in plain_rooms(reader, tree)))


def random_words(choose, many):
    rows = tuple(tuple(choose.randrange(many) for _ in "abc") for _ in range(many))
    return ("words", rows, tuple(sorted(choose.sample(range(many), choose.randint(0, many)))))


def random_scribe(choose, many, most=3):
    rows = tuple(tuple((choose.randrange(many), random_text(choose, most)) for _ in "abc") for _ in range(many))
    return ("scribe", rows, tuple(random_text(choose, 2) if choose.random() < 0.8 else None for _ in range(many)))


def all_texts():
    """The word machine that takes all texts."""
    return ("words", ((0, 0, 0),), (0,))


def length_by(many, takes):
    """The word machine of texts by their lengths, going round."""
    return ("words", tuple(((row + 1) % many,) * 3 for row in range(many)), tuple(takes))


def up_to(many):
    """The word machine of at most so many letters, in many + 2 rows."""
    return ("words", tuple((min(row + 1, many + 1),) * 3 for row in range(many + 2)), tuple(range(many + 1)))
