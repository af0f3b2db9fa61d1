"""Long texts in layers of blocks. Where they are cut hangs on what stands there alone: equal stretches are cut alike.

Letters are the symbols of the lowest layer. A row of symbols is told by runs (symbol, how many
times); it is cut ahead of each symbol whose mark is greater than those beside it, and the blocks
are the symbols of the next layer. At the borders of a text it is not known where the cuts are:
there rows of symbols stay, the heads and the tails of the layers. What is in the middle of the
highest layer, without a cut that is certain, is the top.
"""

_BITS = (1 << 64) - 1


def _mark_of(symbol):
    """A number below 2 ** 64, another one for each symbol, as if by chance."""
    told = (symbol + 1) * 11400714819323198485 & _BITS
    told = (told ^ told >> 32) * 15485863987642915795 & _BITS
    return told ^ told >> 32


class Blocks:
    """The symbols of all layers, and rows of runs of them; each is kept once, and told by a number.

    A text in layers is (heads, tails, top): numbers of rows. The lists are shared, and not changed.
    """

    def __init__(self):
        self.runs = [(), (), ()]
        self.lengths = [1, 1, 1]
        self.marks = [_mark_of(symbol) for symbol in range(3)]
        self.symbols = {}
        self.rows = [()]
        self.numbers = {(): 0}
        self.seams = {}

    def _symbol_of(self, runs):
        if runs not in self.symbols:
            self.symbols[runs] = len(self.runs)
            self.marks.append(_mark_of(len(self.runs)))
            self.lengths.append(sum([self.lengths[symbol] * many for symbol, many in runs]))
            self.runs.append(runs)
        return self.symbols[runs]

    def _row_of(self, runs):
        key = tuple(runs)
        if key not in self.numbers:
            self.numbers[key] = len(self.rows)
            self.rows.append(key)
        return self.numbers[key]

    def _put_together(self, numbers):
        """The runs of rows one behind the other."""
        told = []
        for number in numbers:
            row = self.rows[number]
            if row and told and told[-1][0] == row[0][0]:
                told[-1] = (row[0][0], told[-1][1] + row[0][1])
                told.extend(row[1:])
            else:
                told.extend(row)
        return told

    def _cuts(self, runs, low, high):
        """The places, from low to below high, of symbols with greater marks than those beside them."""
        marks = [self.marks[symbol] for symbol, _ in runs]
        return [place for place in range(low, high) if marks[place - 1] < marks[place] > marks[place + 1]]

    def _blocks_of(self, runs):
        """The runs of blocks of runs that stand between two cuts."""
        if not runs:
            return []
        # What stands behind the last one is a symbol with a greater mark.
        cuts = [0] + self._cuts(runs, 1, len(runs) - 1) + [len(runs)]
        told = []
        for begin, end in zip(cuts, cuts[1:]):
            symbol = self._symbol_of(tuple(runs[begin:end]))
            if told and told[-1][0] == symbol:
                told[-1] = (symbol, told[-1][1] + 1)
            else:
                told.append((symbol, 1))
        return told

    def of_letters(self, letters):
        """A text of letters in layers."""
        runs = []
        for letter in letters:
            symbol = "abc".index(letter)
            if runs and runs[-1][0] == symbol:
                runs[-1] = (symbol, runs[-1][1] + 1)
            else:
                runs.append((symbol, 1))
        return self._topped([], [], runs)

    def _topped(self, heads, tails, runs):
        """A text with these heads and tails of its lower layers, and the runs of the next one."""
        while True:
            # The runs at the borders may go on: what is beside them is no cut for certain.
            cuts = self._cuts(runs, 2, len(runs) - 2)
            if not cuts:
                return heads, tails, self._row_of(runs)
            heads = heads + [self._row_of(runs[:cuts[0]])]
            tails = tails + [self._row_of(runs[cuts[-1]:])]
            runs = self._blocks_of(runs[cuts[0]:cuts[-1]])

    def put_behind(self, one, other):
        """The text of one and, behind it, that of other."""
        heads, ends, top = one
        begins, tails, other_top = other
        middle = 0
        for key in zip(ends, begins):
            seam = (middle,) + key
            middle = self.seams.get(seam)
            if middle is None:
                middle = self._row_of(self._blocks_of(self._put_together([key[0], seam[0], key[1]])))
                self.seams[seam] = middle
        if len(heads) < len(begins):
            return self._with_ahead(heads, [top, middle], other)
        if len(heads) > len(begins):
            return self._with_behind(one, [middle, other_top], tails)
        return self._topped(heads, tails, self._put_together([top, middle, other_top]))

    def _with_ahead(self, heads, ahead, other):
        """A text with heads of its lower layers, and rows ahead of those of the next layer of another one."""
        begins, tails, top = other
        for place in range(len(heads), len(begins)):
            if not any(ahead):
                return heads + begins[place:], tails, top
            runs = self._put_together(ahead + [begins[place]])
            cuts = self._cuts(runs, 2, len(runs) - 1) + [len(runs)]
            heads = heads + [self._row_of(runs[:cuts[0]])]
            ahead = [self._row_of(self._blocks_of(runs[cuts[0]:]))]
        return self._topped(heads, tails, self._put_together(ahead + [top]))

    def _with_behind(self, one, behind, tails):
        """A text with tails of its lower layers, and rows behind those of the next layer of another one."""
        heads, ends, top = one
        for place in range(len(tails), len(ends)):
            if not any(behind):
                return heads, tails + ends[place:], top
            runs = self._put_together([ends[place]] + behind)
            cuts = [0] + self._cuts(runs, 1, len(runs) - 2)
            tails = tails + [self._row_of(runs[cuts[-1]:])]
            behind = [self._row_of(self._blocks_of(runs[:cuts[-1]]))]
        return self._topped(heads, tails, self._put_together([top] + behind))

    def first_unlike(self, one, other):
        """The first index at which two texts do not bear the same letter, None if they are equal."""
        left = self._turned_runs(one)
        right = self._turned_runs(other)
        index = 0
        while left and right:
            symbol, many = left.pop()
            further, more = right.pop()
            if symbol == further:
                both = min(many, more)
                index += both * self.lengths[symbol]
                _push(left, symbol, many - both)
                _push(right, symbol, more - both)
            elif self.lengths[symbol] == self.lengths[further] == 1:
                return index
            elif self.lengths[symbol] < self.lengths[further]:
                left.append((symbol, many))
                self._go_into(right, further, more)
            else:
                right.append((further, more))
                self._go_into(left, symbol, many)
        return index if left or right else None

    def _turned_runs(self, text):
        """All runs of a text, the last one first."""
        heads, tails, top = text
        return [run for number in tails + [top] + heads[::-1] for run in self.rows[number][::-1]]

    def _go_into(self, runs, symbol, many):
        """Let the runs of a symbol come next, ahead of its further times."""
        _push(runs, symbol, many - 1)
        runs.extend(self.runs[symbol][::-1])


def _push(runs, symbol, many):
    if many > 0:
        runs.append((symbol, many))
