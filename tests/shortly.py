"""Shorts: random ones, and what they tell written out."""


def say(letters):
    return ("say", letters)


def then(one, other):
    return ("then", one, other)


def short(*rows):
    return ("short", rows)


def written_out(told):
    """The text of a short."""
    texts = []
    for row in told[1]:
        texts.append(row[1] if row[0] == "say" else texts[row[1]] + texts[row[2]])
    return texts[-1]


def random_short(choose, many, letters="abc", most=(0, 0, 1, 1, 2, 5, 40)):
    rows = []
    for place in range(choose.randint(1, many)):
        if place == 0 or choose.random() < 0.3:
            rows.append(say("".join(choose.choice(letters) for _ in range(choose.choice(most)))))
        else:
            rows.append(then(choose.randrange(place), choose.randrange(max(0, place - 3), place)))
    return ("short", tuple(rows))


def cut_up(choose, text):
    """Another short of a text: parted at chance, again and again."""
    def rows_of(letters):
        if len(letters) <= choose.randint(1, 40):
            return [say(letters)]
        middle = choose.randint(1, len(letters) - 1)
        one, other = rows_of(letters[:middle]), rows_of(letters[middle:])
        moved = [row if row[0] == "say" else then(row[1] + len(one), row[2] + len(one)) for row in other]
        return one + moved + [then(len(one) - 1, len(one) + len(other) - 1)]
    return ("short", tuple(rows_of(text)))


def doubling(letters, many):
    """The short of so many rows, each further one twice the one ahead of it."""
    return ("short", (say(letters),) + tuple(then(place, place) for place in range(many - 1)))


def chain(letters, many):
    """The short of so many rows that says letters again and again, one row behind the other."""
    return ("short", (say(letters),) + tuple(then(place, 0) for place in range(many - 1)))
