"""Templates, writers and readers by the words of the document: slow, and without bounds."""

from helpers import plain_state, readers_of, set_of


def say(letters):
    return ("say", letters)


def room(child, number):
    return ("room", child, number)


def call(child, state):
    return ("call", child, state)


def place_in(kinds, many, tree, states):
    place = 0
    for state in states:
        place = place * many + state
    return [name for name, _ in kinds].index(tree[0]), place


def plain_rooms(reader, tree):
    """The texts of the rooms of a tree."""
    trees = reader[1]
    kind, place = place_in(trees[1], trees[2], tree, [plain_state(trees, child) for child in tree[1:]])
    kids = [plain_rooms(reader, child) for child in tree[1:]]
    return tuple("".join(item[1] if item[0] == "say" else kids[item[1]][item[2]] for item in pieces)
                 for pieces in reader[3][kind][place])


def plain_written(reader, tree):
    """What a reader writes of a tree, None if it does not let it by."""
    end = reader[4][plain_state(reader[1], tree)]
    if end is None:
        return None
    rooms = plain_rooms(reader, tree)
    return "".join(item[1] if item[0] == "say" else rooms[item[2]] for item in end)


def plain_called(writer, state, tree):
    """What an own state of a writer writes of a tree, None if it is not good for it."""
    _, kinds, ahead, rows = writer
    kind, place = place_in(kinds, ahead[2], tree, [plain_state(ahead, child) for child in tree[1:]])
    rule = rows[state][kind][place]
    if rule is None:
        return None
    texts = [item[1] if item[0] == "say" else plain_called(writer, item[2], tree[1 + item[1]]) for item in rule]
    return None if None in texts else "".join(texts)


def plain_filled(trees, template, tree, block=0):
    """What a block of a template writes of a tree."""
    names = [name for name, _ in trees[1]]
    return _items(trees, template, tree, template[block][names.index(tree[0])])


def _items(trees, template, tree, body):
    return "".join(_item(trees, template, tree, item) for item in body)


def _item(trees, template, tree, item):
    if item[0] == "say":
        return item[1]
    if item[0] == "call":
        return plain_filled(trees, template, tree[1 + item[2]], item[1])
    if item[0] == "if":
        is_due = plain_state(trees, tree[1 + item[1]]) in item[2]
        return _items(trees, template, tree, item[3] if is_due else item[4])
    _, name, child, block, between, instead = item
    below = tree[1 + child]
    texts = []
    while below[0] == name:
        texts.append(plain_filled(trees, template, below[1], block))
        below = below[2]
    return between.join(texts) if texts else instead


def random_text(choose, most):
    return "".join(choose.choice("abc") for _ in range(choose.randint(0, most)))


def random_pieces(choose, rank, rooms, most=4, link=room):
    items = []
    for _ in range(choose.randint(0, most)):
        if rank and choose.random() < 0.6:
            items.append(link(choose.randrange(rank), choose.randrange(rooms)))
        else:
            items.append(say(random_text(choose, 3) or "a"))
    return tuple(items)


def random_reader(choose, trees, rooms, most=3):
    ranks = dict(trees[1])
    return readers_of(trees, rooms, lambda name, states: tuple(random_pieces(choose, ranks[name], rooms, most) for _ in range(rooms)),
                      lambda state: random_pieces(choose, 1, rooms, most) if choose.random() < 0.7 else None)


def random_writer(choose, trees, own, sure=False, most=3):
    def rule(rank):
        return random_pieces(choose, rank, own, most, call) if sure or choose.random() < 0.8 else None
    rows = tuple(tuple(tuple(rule(rank) for _ in row) for (_, rank), row in zip(trees[1], trees[3])) for _ in range(own))
    return ("writer", trees[1], trees, rows)


def random_body(choose, trees, rank, blocks, ifs):
    items = []
    twos = [name for name, many in trees[1] if many == 2]
    for _ in range(choose.randint(0, 3)):
        way = choose.random()
        if rank and way < 0.4:
            items.append(("call", choose.randrange(blocks), choose.randrange(rank)))
        elif rank and ifs and way < 0.6:
            states = sorted(choose.sample(range(trees[2]), choose.randint(1, trees[2])))
            items.append(("if", choose.randrange(rank), tuple(states), random_body(choose, trees, rank, blocks, ifs - 1),
                          random_body(choose, trees, rank, blocks, ifs - 1)))
        elif rank and twos and way < 0.8:
            items.append(("for", choose.choice(twos), choose.randrange(rank), choose.randrange(blocks),
                          random_text(choose, 2), random_text(choose, 1)))
        elif not items or items[-1][0] != "say":
            items.append(say(random_text(choose, 3) or "b"))
    return tuple(items)


def random_template(choose, trees, blocks, ifs=2):
    return tuple(tuple(random_body(choose, trees, rank, blocks, ifs) for _, rank in trees[1]) for _ in range(blocks))


def are_pressed(items):
    """Whether no say stands right behind another say of less than 40 letters."""
    return all(before[0] != "say" or after[0] != "say" or len(before[1]) == 40 for before, after in zip(items, items[1:]))


def plain_plain(kinds, template):
    """plain by the words of the document, the blocks told by their bodies' words first."""
    loops = []

    def find(body):
        for item in body:
            if item[0] == "for":
                _, name, _, block, between, instead = item
                for loop in (("first", name, block, between, instead), ("rest", name, block, between)):
                    if loop == ("first", name, block, "", ""):
                        loop = ("rest", name, block, "")
                    if loop not in loops:
                        loops.append(loop)
            if item[0] == "if":
                find(item[3])
                find(item[4])
    for block in template:
        for body in block:
            find(body)

    def number(loop):
        return len(template) + loops.index(loop)

    def changed(body):
        told = []
        for item in body:
            if item[0] == "for":
                loop = ("first", item[1]) + item[3:]
                told.append(("call", number(("rest", item[1], item[3], "") if loop[3:] == ("", "") else loop), item[2]))
            elif item[0] == "if":
                told.append(item[:3] + (changed(item[3]), changed(item[4])))
            else:
                told.append(item)
        return tuple(told)
    blocks = [tuple(changed(body) for body in block) for block in template]
    for loop in loops:
        name, block, between = loop[1:4]
        along = (("call", block, 0), ("call", number(("rest", name, block, between)), 1))
        ahead = (say(between),) if loop[0] == "rest" and between else ()
        other = (say(loop[4]),) if loop[0] == "first" and loop[4] else ()
        blocks.append(tuple(ahead + along if kind == name else other for kind, _ in kinds))
    return tuple(blocks)


# A set that counts nothing: leaves e of state 0, n of state 1, pairs of state 2.
ENP = (("e", 0), ("n", 0), ("p", 2))
PAIRS = set_of(ENP, 3, lambda name, states: {"e": 0, "n": 1, "p": 2}[name], (2,))
LIST = (((), (say("a"),), (("for", "p", 1, 0, "b", "c"),)),)
