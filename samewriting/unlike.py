"""The first index at which two long texts are unlike."""

from samewriting.blocks import Blocks
from samewriting.rowtexts import RowTexts
from samewriting.shorts import check_short


def first_unlike(one, other):
    """The least index at which both do not bear the same letter, None if they tell the same text."""
    check_short(one)
    check_short(other)
    return _first_unlike(one, other)


def _first_unlike(one, other):
    rows = Rows()
    places = [rows.place_of_last(short[1]) for short in (one, other)]
    if places[0] == places[1]:
        return None
    blocks = Blocks()
    texts = rows.texts_in(blocks, places)
    return blocks.first_unlike(texts[0], texts[1])


class Rows:
    """The rows of some shorts, equal ones once."""

    def __init__(self):
        self.rows = []
        self.places = {}

    def place_of_last(self, rows):
        """Take the rows of a short; the place of the last one."""
        own = []
        for row in rows:
            key = row if row[0] == "say" else ("then", own[row[1]], own[row[2]])
            if key not in self.places:
                self.places[key] = len(self.rows)
                self.rows.append(key)
            own.append(self.places[key])
        return own[-1]

    def _last_uses(self, places):
        """For each row that comes into those of some places the last place at which it is used."""
        told = {place: len(self.rows) for place in places}
        for place in range(len(self.rows) - 1, -1, -1):
            if place in told and self.rows[place][0] == "then":
                for own in self.rows[place][1:]:
                    told.setdefault(own, place)
        return told

    def texts_in(self, blocks, places):
        """The texts of the rows of some places, in layers of blocks."""
        uses = self._last_uses(places)
        texts = {}
        for place in sorted(uses):
            row = self.rows[place]
            if row[0] == "say":
                texts[place] = blocks.of_letters(row[1])
            else:
                texts[place] = blocks.put_behind(texts[row[1]], texts[row[2]])
                # Texts have many layers: those that are not used any more are not kept.
                for own in row[1:]:
                    if uses[own] == place:
                        texts.pop(own, None)
        return [texts[place] for place in places]


def is_ahead(one, other):
    """Whether the text of one is less than that of other, as Python compares strings."""
    check_short(one)
    check_short(other)
    index = _first_unlike(one, other)
    if index is None:
        return False
    texts = [RowTexts(short[1]) for short in (one, other)]
    first, second = [own.stretch(index, index + 1) if index < own.lengths[-1] else "" for own in texts]
    return first < second
