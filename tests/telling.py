"""Programs with faults that take some turns, and turns gone by plainly, stand by stand."""

import random

from tests.reference import faulty_of, first_of, some_source, steps_of
from tests.samples import BACK, FAULT


def some_faulty_row(chance, sizes, texts, others, many):
    box = chance.choice(sorted(sizes))
    value = chance.randrange(sizes[box])
    kinds = ["set"] * 6 + ["wait"] * 5 + ["if", "go", "go", "call", "call", "fault", "fault", "fault"]
    kind = chance.choice(kinds + (["begin"] if others and chance.random() < 0.2 else []))
    if kind == "set":
        return ("set", box, some_source(chance, box, sizes))
    if kind in ("wait", "if"):
        return (kind, box, value) + ((chance.randint(0, many),) if kind == "if" else ())
    if kind == "go":
        return ("go", tuple(sorted(chance.sample(range(many + 1), min(2, many + 1)))))
    if kind in ("call", "begin"):
        return (kind, chance.choice(texts if kind == "call" else others))
    return FAULT if kind == "fault" else BACK


def faulty_program(chance, deep=True):
    """A small program; where it isn't deep texts call only later ones, so that all stands can be gone by."""
    boxes = tuple((name, chance.randint(2, 3)) for name in "xy"[:chance.randint(1, 2)])
    names = ["one", "two", "three"][:chance.choice([2, 2, 2, 3])]
    hands = []
    for name in names:
        own = tuple((title, 2) for title in "a"[:chance.randint(0, 1)])
        texts = ["top", "sub"][:chance.randint(1, 2)]
        told = []
        for number, title in enumerate(texts):
            many = chance.randint(2, 5)
            called = texts if deep else texts[number + 1:]
            rows = []
            while len(rows) < many:
                row = some_faulty_row(chance, dict(boxes + own), called or texts, [other for other in names if other != name], many)
                # Faults stand behind a row that waits, so that they take some turns.
                if (row[0] != "call" or called) and (row != FAULT or rows and rows[-1][0] == "wait"):
                    rows.append(row)
            told.append((title, tuple(rows)))
        hands.append((name, own, tuple(told)))
    return boxes, tuple(hands)


def faulty_programs(seed, many, deep=True):
    chance = random.Random(seed)
    for count in range(many):
        yield chance, faulty_program(chance, deep)


def some_limit(chance, program, most=3):
    return chance.randint(0, most), tuple(chance.choice([None, None, None, 0, 1, 2]) for hand in program[1])


def turn_from(program, stand, hand, deepest):
    """All stands that a hand comes to by one step or more, piles to so many points."""
    found, front = set(), [stand]
    while front:
        for choice, onward in steps_of(program, front.pop(), hand):
            if onward not in found and len(onward[1][hand][1]) <= deepest:
                found.add(onward)
                front.append(onward)
    return found


def fewest_turns(program, limit, deepest=4, most=4000):
    """The fewest turns within a limit by which a fault is come to with piles to so many points, or None.

    Tells "much" where there are too many stands to go by.
    """
    everything, each = limit
    layer = {(first_of(program), None, (0,) * len(program[1]))}
    seen = set(layer)
    turns = 0
    while layer:
        if any(faulty_of(program, stand) is not None for stand, last, used in layer):
            return turns
        if turns == everything:
            return None
        ahead = set()
        for stand, last, used in layer:
            for hand in range(len(program[1])):
                if hand != last and (each[hand] is None or used[hand] < each[hand]):
                    more = used[:hand] + (used[hand] + 1,) + used[hand + 1:]
                    ahead |= {(onward, hand, more) for onward in turn_from(program, stand, hand, deepest)}
            if len(ahead) > most:
                return "much"
        turns += 1
        layer = ahead - seen
        seen |= ahead
    return None
