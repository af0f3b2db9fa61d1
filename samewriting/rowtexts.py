"""The texts that the rows of a short tell: stretches of them, and words in them."""


class RowTexts:
    """The lengths of the texts of all rows, and ways into them that pass by what is empty."""

    def __init__(self, rows):
        self.rows = rows
        self.lengths = []
        # For each row the one that tells the same text and is no "then" with an empty side.
        self.same = []
        for place, row in enumerate(rows):
            if row[0] == "say":
                self.lengths.append(len(row[1]))
                self.same.append(place)
            else:
                first, second = row[1:]
                self.lengths.append(self.lengths[first] + self.lengths[second])
                self.same.append(self._same_as(place, first, second))

    def _same_as(self, place, first, second):
        if self.lengths[first] == 0:
            return self.same[second]
        return self.same[first] if self.lengths[second] == 0 else place

    def stretch(self, begin, end):
        """The letters of the last row from begin on, ahead of end."""
        found = []
        # Each stretch of a row waits as (row, begin, end), the first one last.
        waiting = [(len(self.rows) - 1, begin, end)]
        while waiting:
            place, low, high = waiting.pop()
            if low < high:
                row = self.rows[self.same[place]]
                if row[0] == "say":
                    found.append(row[1][low:high])
                else:
                    middle = self.lengths[row[1]]
                    if high > middle:
                        waiting.append((row[2], max(low - middle, 0), high - middle))
                    if low < middle:
                        waiting.append((row[1], low, min(high, middle)))
        return "".join(found)

    def cut_out(self, begin, end):
        """The rows of a short of the letters of the last row from begin on, ahead of end."""
        return self._rows_for(self._parts_of(begin, end))

    def _sides(self, place):
        return [self.same[own] for own in self.rows[place][1:]]

    def _parts_of(self, begin, end):
        """The parts of a stretch, in order: numbers of rows that are whole, and letters."""
        place = self.same[-1]
        while self.rows[place][0] == "then" and (begin > 0 or end < self.lengths[place]):
            first, second = self._sides(place)
            middle = self.lengths[first]
            if begin < middle < end:
                return self._end_of(first, begin) + self._beginning_of(second, end - middle)
            # As long as both borders are in one side, only this side is gone into.
            if begin < middle:
                place = first
            else:
                place, begin, end = second, begin - middle, end - middle
        return [place if self.rows[place][0] == "then" else self.rows[place][1][begin:end]]

    def _end_of(self, place, begin):
        """The parts of a row from begin on."""
        behind = []
        while self.rows[place][0] == "then" and begin > 0:
            first, second = self._sides(place)
            if begin < self.lengths[first]:
                behind.append(second)
                place = first
            else:
                place, begin = second, begin - self.lengths[first]
        return [self.rows[place][1][begin:] if begin > 0 else place] + behind[::-1]

    def _beginning_of(self, place, end):
        """The parts of a row ahead of end."""
        ahead = []
        while self.rows[place][0] == "then" and end < self.lengths[place]:
            first, second = self._sides(place)
            if end > self.lengths[first]:
                ahead.append(first)
                place, end = second, end - self.lengths[first]
            else:
                place = first
        return ahead + [self.rows[place][1][:end] if end < self.lengths[place] else place]

    def _rows_for(self, parts):
        """Rows that tell parts one behind the other: those that come into them, then one for each further part."""
        whole = {part: True for part in parts}
        wanted = [place in whole for place in range(len(self.rows))]
        for place in range(len(self.rows) - 1, -1, -1):
            if wanted[place] and self.rows[place][0] == "then":
                for own in self._sides(place):
                    wanted[own] = True
        told = []
        numbers = {}
        for place, row in enumerate(self.rows):
            if wanted[place]:
                numbers[place] = len(told)
                told.append(row if row[0] == "say" else ("then",) + tuple([numbers[own] for own in self._sides(place)]))
        for part in parts:
            if part not in numbers:
                numbers[part] = len(told)
                told.append(("say", part))
        number = numbers[parts[-1]]
        for part in reversed(parts[:-1]):
            told.append(("then", numbers[part], number))
            number = len(told) - 1
        return tuple(told)


class WordFinder:
    """How often a word stands in the text of the last row, and at which index first."""

    def __init__(self, rows, word):
        self.word = word
        # Of each row: its length, how often, where first, and the letters at its borders in which the word may begin.
        self.known = []
        for row in rows:
            self.known.append(self._of_say(row[1]) if row[0] == "say" else self._of_both(row[1], row[2]))
        _, self.times, self.first, _, _ = self.known[-1]

    def _of_say(self, letters):
        indexes = self._indexes_in(letters)
        border = len(self.word) - 1
        first = indexes[0] if indexes else None
        return len(letters), len(indexes), first, letters[:border], letters[max(0, len(letters) - border):]

    def _indexes_in(self, letters):
        many = len(self.word)
        return [index for index in range(len(letters) - many + 1) if letters[index:index + many] == self.word]

    def _of_both(self, one, other):
        many, times, first, head, tail = self.known[one]
        further, more, later, begin, end = self.known[other]
        border = len(self.word) - 1
        # No border has the whole word: what is found here stands in both.
        indexes = self._indexes_in(tail + begin)
        if first is None and indexes:
            first = many - len(tail) + indexes[0]
        elif first is None and later is not None:
            first = many + later
        head = (head + begin)[:border]
        tail = tail + end if further < border else end
        return many + further, times + len(indexes) + more, first, head, tail[max(0, len(tail) - border):]
