"""The largest readers and templates that are let: each answer comes within seconds."""

from helpers import Case, chance, readers_of, set_of
from machining import length_by
from templating import room, say
from samewriting.codes import coded
from samewriting.compiling import as_template, writer_of
from samewriting.composing import composed
from samewriting.copying import copies, is_copies, most_copies
from samewriting.coverage import coverage, pruned
from samewriting.errors import TooMany
from samewriting.readers import domain, is_reader
from samewriting.templates import is_template
from samewriting.tidying import merged, tidied
from samewriting.turning import as_reader, as_writer
from samewriting.types import always, is_answer, signs, within
from samewriting.writers import is_writer
from test_templates import to, when

EF3 = (("e", 0), ("f", 3))
SECONDS = 30


def large_reader(rooms, items):
    """15 states, 3376 goals, and so many items in each room."""
    choose = chance(rooms)
    trees = set_of(EF3, 15, lambda name, states: (sum(states) + 1) % 15 if states else 0)

    def pieces():
        return tuple(room(choose.randrange(3), choose.randrange(rooms)) if choose.random() < 0.5 else say(choose.choice("abc")) for _ in range(items))
    return readers_of(trees, rooms, lambda name, states: tuple(pieces() if states else (say("a"),) for _ in range(rooms)),
                      lambda state: (room(0, state % rooms),))


class Speed(Case):
    def many(self, most, function, *passed):
        told = self.within(SECONDS, function, *passed)
        self.assertIsInstance(told, TooMany)
        self.assertEqual(told.most, most)

    def test_readers(self):
        reader = large_reader(8, 24)
        self.assertIs(self.within(SECONDS, is_reader, reader), True)
        self.assertEqual(self.within(SECONDS, tidied, reader)[1][2], 15)
        self.assertEqual(self.within(SECONDS, merged, reader)[1][2], 15)
        self.assertEqual(self.within(SECONDS, domain, reader)[2], 1)
        told = self.within(SECONDS, copies, reader)
        self.assertEqual(told[0], "endless")
        self.assertIs(self.within(SECONDS, is_copies, reader, told), True)
        self.assertIs(self.within(SECONDS, most_copies, reader), None)
        for function in (signs, always):
            self.many(400, function, reader, length_by(8, (0,)))
        self.many(60, within, reader, length_by(8, (0,)))
        self.many(8, as_writer, reader)
        self.assertEqual(self.within(SECONDS, composed, reader, ("scribe", (((0, "aa"), (0, "b"), (0, "")),), ("c",)))[1][2], 15)

    def test_few_rooms(self):
        reader = large_reader(1, 30)
        told = self.within(SECONDS, always, reader, length_by(2, (0, 1)))
        self.assertEqual(told[0], "always")
        self.assertIs(self.within(SECONDS, is_answer, reader, length_by(2, (0, 1)), told), True)
        self.many(4000, composed, reader, ("scribe", (((1, "a"),) * 3, ((0, "b"),) * 3), ("", "")))
        self.assertEqual(self.within(SECONDS, coded, large_reader(4, 20))[2], 8)

    def test_writers_and_back(self):
        writer = self.within(SECONDS, as_writer, large_reader(7, 30))
        self.assertIs(self.within(SECONDS, is_writer, writer), True)
        self.assertEqual(self.within(SECONDS, as_reader, writer)[1][2], 15)
        self.many(100, as_template, writer)

    def test_templates(self):
        choose = chance(1)
        kinds = (("e", 0), ("f", 2), ("g", 1))
        trees = set_of(kinds, 60, lambda name, states: (1 + sum(states) * 7 + len(states)) % 60 if states else 0, tuple(range(0, 60, 7)))
        template = tuple(((say("a"),), tuple(
            when(child, tuple(sorted(choose.sample(range(60), 20))), (to(choose.randrange(8), 1),), (to(choose.randrange(8), 0), say("ab")))
            for child in range(2)) + (to(choose.randrange(8), 0),), (to(block, 0),)) for block in range(8))
        self.assertIs(is_template(trees, template), True)
        writer = self.within(SECONDS, writer_of, trees, template)
        self.assertEqual(self.within(SECONDS, as_reader, writer)[1][2], 60)
        self.assertGreater(len(self.within(SECONDS, coverage, trees, template)), 24)
        self.assertIs(is_template(trees, self.within(SECONDS, pruned, trees, template)), True)
