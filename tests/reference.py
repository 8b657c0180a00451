"""Steps gone by plainly, box by box, to hold the program's steps against; and programs made by seeded chance."""

import random

from tests.samples import BACK, FAULT


def first_of(program):
    """The stand at first."""
    boxes, hands = program
    begun = {row[1] for hand in hands for text in hand[2] for row in text[1] if row[0] == "begin"}
    there = [hand[0] not in begun for hand in hands]
    common = tuple([0] * len(boxes) + [int(known) for known in there])
    return common, tuple(((0,) * len(hand[1]), ((0, 0),)) if known else None for hand, known in zip(hands, there))


def opened(program, stand, hand):
    """The boxes a hand sees, those begun, and the piles, as dicts and lists."""
    boxes, hands = program
    common, places = stand
    seen = {box[0]: common[at] for at, box in enumerate(boxes)}
    seen.update({box[0]: places[hand][0][at] for at, box in enumerate(hands[hand][1])})
    return seen, list(common[len(boxes):]), [None if at is None else list(at[1]) for at in places]


def shut(program, stand, hand, seen, begun, piles):
    """A stand made of what was opened."""
    boxes, hands = program
    told = []
    for number, (name, own, texts) in enumerate(hands):
        if not begun[number]:
            told.append(None)
        elif number == hand:
            told.append((tuple(seen[box[0]] for box in own), tuple(piles[number])))
        elif stand[1][number] is None:
            told.append(((0,) * len(own), ((0, 0),)))
        else:
            told.append((stand[1][number][0], tuple(piles[number])))
    return tuple(seen[box[0]] for box in boxes) + tuple(begun), tuple(told)


def row_there(program, stand, hand):
    """The row at which a hand is, or None."""
    where = stand[1][hand]
    if where is None or where[1] == ():
        return None
    text, at = where[1][0]
    rows = program[1][hand][2][text][1]
    return BACK if at == len(rows) else rows[at]


def choices_of(row, seen, sizes):
    if row[0] == "set" and row[2][0] == "any":
        return list(range(sizes[row[1]]))
    if row[0] == "go":
        return list(row[1])
    if row[0] == "fault" or row[0] == "wait" and seen[row[1]] != row[2]:
        return []
    return [None]


def follow(program, hand, row, choice, seen, begun, pile, sizes):
    """Do a row by a choice, changing what was opened."""
    text, at = pile[0]
    pile[0] = (text, at + 1)
    if row[0] == "set":
        word, *more = row[2]
        values = {"any": lambda: choice, "to": lambda: more[0], "of": lambda: seen[more[0]],
                  "on": lambda: (seen[row[1]] + more[0]) % sizes[row[1]]}
        seen[row[1]] = values[word]()
    elif row[0] == "if" and seen[row[1]] == row[2]:
        pile[0] = (text, row[3])
    elif row[0] == "go":
        pile[0] = (text, choice)
    elif row[0] == "call":
        pile.insert(0, ([title for title, rows in program[1][hand][2]].index(row[1]), 0))
    elif row[0] == "back":
        pile.pop(0)
    elif row[0] == "begin":
        begun[[other[0] for other in program[1]].index(row[1])] = 1


def steps_of(program, stand, hand):
    """The steps of a hand, however deep its pile."""
    row = row_there(program, stand, hand)
    if row is None:
        return []
    sizes = dict(program[0] + program[1][hand][1])
    told = []
    for choice in choices_of(row, opened(program, stand, hand)[0], sizes):
        seen, begun, piles = opened(program, stand, hand)
        follow(program, hand, row, choice, seen, begun, piles[hand], sizes)
        told.append((choice, shut(program, stand, hand, seen, begun, piles)))
    return told


def faulty_of(program, stand):
    """The least hand that faults, or None."""
    found = [hand for hand in range(len(program[1])) if row_there(program, stand, hand) == FAULT]
    return min(found, default=None)


def some_source(chance, box, sizes):
    others = [name for name in sizes if name != box and sizes[name] <= sizes[box]]
    kinds = [("to", chance.randrange(sizes[box])), ("on", chance.randint(1, 3)), ("any",)]
    return chance.choice(kinds + [("of", name) for name in others])


def some_row(chance, sizes, texts, others, many):
    ways = tuple(sorted(chance.sample(range(many + 1), chance.randint(1, min(4, many + 1)))))
    rows = [BACK, ("go", ways), ("call", chance.choice(texts)), ("call", chance.choice(texts))]
    if sizes:
        for count in range(3):
            box = chance.choice(sorted(sizes))
            value = chance.randrange(sizes[box])
            rows.append(("set", box, some_source(chance, box, sizes)))
            rows.append(chance.choice([("if", box, value, chance.randint(0, many)), ("wait", box, value)]))
    if others and chance.random() < 0.3:
        rows.append(("begin", chance.choice(others)))
    if chance.random() < 0.2:
        rows.append(FAULT)
    return chance.choice(rows)


def some_program(chance):
    boxes = tuple((name, chance.randint(1, 4)) for name in "xyz"[:chance.randint(0, 3)])
    names = ["one", "two", "three", "four"][:chance.randint(1, 4)]
    hands = []
    for name in names:
        own = tuple((title, chance.randint(1, 8)) for title in "abc"[:chance.randint(0, 3)])
        texts = ["top", "sub", "low"][:chance.randint(1, 3)]
        others = [other for other in names if other != name]
        told = []
        for title in texts:
            many = chance.randint(1, 6)
            told.append((title, tuple(some_row(chance, dict(boxes + own), texts, others, many) for count in range(many))))
        hands.append((name, own, tuple(told)))
    return boxes, tuple(hands)


def some_walk(chance, program, most):
    """Steps (hand, choice) gone by chance, with the stand at first and behind each."""
    stand = first_of(program)
    path, stands = [], [stand]
    for count in range(most):
        ways = [(hand, way) for hand in range(len(program[1])) for way in steps_of(program, stand, hand)]
        if not ways:
            break
        hand, (choice, stand) = chance.choice(ways)
        path.append((hand, choice))
        stands.append(stand)
    return path, stands


def many_walks(seed, many, most=40):
    """Programs with walks: tuples (program, path, stands)."""
    chance = random.Random(seed)
    for count in range(many):
        program = some_program(chance)
        path, stands = some_walk(chance, program, most)
        yield program, path, stands
