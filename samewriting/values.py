"""What is asked of any value before it is taken for a number, a word or a tuple."""


def is_whole(thing):
    """Whether it is a whole number, above or below 0 too."""
    return isinstance(thing, int) and not isinstance(thing, bool)


def is_between(thing, low, high):
    """Whether it is a whole number from low to high."""
    return is_whole(thing) and low <= thing <= high


def is_word(thing, word):
    """Whether it is the string `word`."""
    return isinstance(thing, str) and thing == word


def is_row(thing, many):
    """Whether it is a tuple of so many items."""
    return isinstance(thing, tuple) and len(thing) == many


def is_rising(items):
    """Whether each item is less than the one behind it."""
    return all([before < after for before, after in zip(items, items[1:])])


def is_rising_below(thing, many):
    """Whether it is an ascending tuple of numbers below many."""
    if not isinstance(thing, tuple):
        return False
    return all([is_between(number, 0, many - 1) for number in thing]) and is_rising(thing)
