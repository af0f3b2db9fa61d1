"""With what beginnings texts of templates and of trees begin: all ways are gone, letter by letter.

What is still to come is a tuple of parts: words, and parts that stand for many words. A state is
(parts, counts); a step by a letter leads from a state to all that are possible behind it.
"""


class Ways:
    """All ways to go on. Classes below tell how a part is opened: into tuples of parts, with new counts."""

    def __init__(self, state):
        self.states = {state}

    def opened(self, state):
        """All states with a word ahead, or with nothing left, that a state may be."""
        found, waiting, seen = set(), [state], {state}
        while waiting:
            parts, counts = waiting.pop()
            if not parts or isinstance(parts[0], str) and parts[0]:
                found.add((parts, counts))
                continue
            if isinstance(parts[0], str):
                ways = [((), counts)]
            else:
                ways = self.ways(parts[0], counts)
            for ahead, after in ways:
                further = (tuple(ahead) + parts[1:], after)
                if further not in seen:
                    seen.add(further)
                    waiting.append(further)
        return found

    def step(self, letter):
        told = set()
        for state in self.states:
            for parts, counts in self.opened(state):
                if parts and parts[0][0] == letter:
                    told.add(((parts[0][1:],) + parts[1:], counts))
        self.states = told

    def is_whole(self):
        return any(not parts and self.is_right(counts) for state in self.states for parts, counts in self.opened(state))


def longest(ways, text):
    """The length of the longest beginning of a text that can be gone, and whether all of it is a whole one."""
    for place, letter in enumerate(text):
        ways.step(letter)
        if not ways.states:
            return place, False
    return len(text), ways.is_whole()


class TemplateWays(Ways):
    """The texts of templates of a set; counts are (items, highest block called, blocks)."""

    def __init__(self, trees):
        self.trees = trees
        super().__init__(((("block",),), (0, -1, 0)))

    def is_right(self, counts):
        return counts[1] < counts[2]

    def ways(self, part, counts):
        return {"block": self.block, "body": self.body, "few": self.few, "states": self.numbers}[part[0]](counts, *part[1:])

    def block(self, counts):
        items, highest, blocks = counts
        if blocks == 8:
            return []
        told = []
        for name, rank in self.trees[1]:
            told.extend([("\n" if told else "") + name + ": ", ("body", rank, 0, 0, 40)])
        after = (items, highest, blocks + 1)
        return [(tuple(told), after), (tuple(told) + ("\n\n", ("block",)), after)]

    def body(self, counts, rank, ifs, found, said):
        """`said` letters stand in the say behind which it goes on, 40 if there is none."""
        told = [((), counts)]
        items, highest, blocks = counts
        if said < 40:
            told.extend(((letter, ("body", rank, ifs, found, said + 1)), counts) for letter in "abc")
        if found == 60 or items == 100:
            return told
        more = (items + 1, highest, blocks)
        if said == 40:
            told.extend(((letter, ("body", rank, ifs, found + 1, 1)), more) for letter in "abc")
        rest = ("body", rank, ifs, found + 1, 40)
        for child in range(rank):
            for block in range(8):
                called = (items + 1, max(highest, block), blocks)
                told.append((("{call %d on %d}" % (block, child), rest), called))
                told.extend((("{for %s in %d use %d with " % (name, child, block), ("few", 0), " else ", ("few", 0), "}", rest), called)
                            for name, many in self.trees[1] if many == 2)
            if ifs < 12:
                inner = ("body", rank, ifs + 1, 0, 40)
                told.append((("{if %d in " % child, ("states", -1), "}", inner, "{else}", inner, "{end}", rest), more))
        return told

    def few(self, counts, many):
        told = [(("-",), counts)] if many == 0 else [((), counts)]
        if many < 8:
            told.extend(((letter, ("few", many + 1)), counts) for letter in "abc")
        return told

    def numbers(self, counts, last):
        told = []
        for state in range(last + 1, self.trees[2]):
            told.append(((str(state),), counts))
            if state + 1 < self.trees[2]:
                told.append(((str(state) + ",", ("states", state)), counts))
        return told


class TreeWays(Ways):
    """The texts of trees of kinds; counts are the nodes so far, and those that are sure to come."""

    def __init__(self, kinds):
        self.kinds = kinds
        super().__init__(((("tree", 1),), 1))

    def is_right(self, counts):
        return True

    def ways(self, part, counts):
        level = part[1]
        told = []
        for name, rank in self.kinds:
            if counts + rank <= 400 and (rank == 0 or level < 60):
                inner = [name] + (["("] if rank else [])
                for child in range(rank):
                    inner.extend([","] if child else [])
                    inner.append(("tree", level + 1))
                told.append((tuple(inner + ([")"] if rank else [])), counts + rank))
        return told
