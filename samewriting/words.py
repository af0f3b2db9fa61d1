"""Names, and the words that are none."""

KEPT = ("call", "else", "end", "for", "if", "in", "on", "use", "with")

_LETTERS = "abcdefghijklmnopqrstuvwxyz"


def is_name(thing):
    """Whether any value is a name: 1 to 8 letters a to z, and no kept word."""
    if not isinstance(thing, str) or not 1 <= len(thing) <= 8:
        return False
    return all([letter in _LETTERS for letter in thing]) and thing not in KEPT
