"""Turns gone by plainly by machines made plainly: in an order, round by round; and programs for it."""

import itertools

from fewturnsover.least import least
from tests.machining import grown_plainly, living
from tests.reference import faulty_of, first_of, some_source, steps_of
from tests.samples import FAULT


def first_heads(program):
    """The (common, machines) at first."""
    common, places = first_of(program)
    return common, tuple(None if at is None else first_machine(program, hand) for hand, at in enumerate(places))


def first_machine(program, hand):
    return ((((0,) * len(program[1][hand][1]), 0),), ((0, (0, 0), 1),), (1,))


def is_fault_at(program, hand, point):
    text, row = point
    rows = program[1][hand][2][text][1]
    return row < len(rows) and rows[row] == FAULT


def faults_at_first(program):
    return faulty_of(program, first_of(program)) is not None


class Turns:
    """Turns of a program's hands by machines, each made once."""

    def __init__(self, program):
        self.program = program
        self.known = {}

    def turn(self, hand, common, machine):
        """Whether a turn comes to a fault, and a dict from commons to the least machines of its own behind it."""
        key = (hand, common, machine)
        if key not in self.known:
            begins = tuple((common + control, state) for control, state in machine[0])
            found = grown_plainly(self.program, hand, (begins,) + machine[1:])
            alive, many = living(found), len(common)
            states = {state for control, state in found[0] if state in alive}
            faulty = any(state in states and other in alive and is_fault_at(self.program, hand, point)
                         for state, point, other in found[1])
            ways = {}
            for known in sorted({control[:many] for control, state in found[0] if state in alive}):
                short = tuple((control[many:], state) for control, state in found[0] if control[:many] == known)
                ways[known] = least((short,) + found[1:])
            self.known[key] = faulty, ways
        return self.known[key]

    def from_head(self, head, hand):
        """Whether a hand's turn comes to a fault from (common, machines), and what it leads to, a list."""
        common, machines = head
        if machines[hand] is None:
            return False, []
        faulty, ways = self.turn(hand, common, machines[hand])
        told = []
        for known, machine in ways.items():
            there = list(machines[:hand] + (machine,) + machines[hand + 1:])
            for other, begun in enumerate(known[len(self.program[0]):]):
                if begun and there[other] is None:
                    there[other] = first_machine(self.program, other)
                    faulty = faulty or is_fault_at(self.program, other, (0, 0))
            told.append((known, tuple(there)))
        return faulty, told


def faults_by_order(program, order):
    """Whether some run faults whose turns' hands are those of an order, some perhaps left out."""
    if faults_at_first(program):
        return True
    turns = Turns(program)
    heads = {first_heads(program)}
    for hand in order:
        more = set()
        for head in heads:
            faulty, told = turns.from_head(head, hand)
            if faulty:
                return True
            more |= set(told)
        heads |= more
    return False


def faults_by_stands(program, order, deepest=4, most=2000):
    """The same by all stands, piles to so many points; "much" where there are too many."""
    stands = {first_of(program)}
    for hand in [None, *order]:
        front = [] if hand is None else list(stands)
        while front:
            for choice, onward in steps_of(program, front.pop(), hand):
                if onward not in stands and len(onward[1][hand][1]) <= deepest:
                    stands.add(onward)
                    front.append(onward)
            if len(stands) > most:
                return "much"
        if any(faulty_of(program, stand) is not None for stand in stands):
            return True
    return False


def rounds_of(program, most):
    """By rounds, at most so many: (word, number of rounds gone), the word `run`, `book` or `open`; and all entries."""
    if faults_at_first(program):
        return ("run", 0), 1
    turns = Turns(program)
    layer = {first_heads(program) + (None,)}
    seen = set(layer)
    for gone in range(1, most + 1):
        ahead, faulty = set(), False
        for common, machines, last in layer:
            for hand in range(len(program[1])):
                if hand != last:
                    wrong, told = turns.from_head((common, machines), hand)
                    faulty = faulty or wrong
                    ahead |= {head + (hand,) for head in told}
        if faulty:
            return ("run", gone), None
        layer = ahead - seen
        seen |= ahead
        if not layer:
            return ("book", gone), len(seen)
    return ("open", most), len(seen)


def is_part_of(hands, order):
    """Whether hands are those of an order, some perhaps left out."""
    left = iter(order)
    return all(hand in left for hand in hands)


def all_orders(hands, most):
    for many in range(1, most + 1):
        yield from itertools.product(range(hands), repeat=many)


def some_order_row(chance, sizes, texts, others, many):
    kinds = ["go", "back", "fault", "fault"] + ["call"] * (3 if texts else 0) + ["begin"] * (2 if others else 0)
    kind = chance.choice(kinds + ["set"] * 5 + ["wait"] * 4 + ["if"] * 2 if sizes else kinds)
    if kind in ("set", "wait", "if"):
        box = chance.choice(sorted(sizes))
        if kind == "set":
            return ("set", box, some_source(chance, box, sizes))
        return (kind, box, chance.randrange(sizes[box])) + ((chance.randint(0, many),) if kind == "if" else ())
    if kind == "go":
        return ("go", tuple(sorted(chance.sample(range(many + 1), chance.randint(1, min(4, many + 1))))))
    if kind in ("call", "begin"):
        return (kind, chance.choice(texts if kind == "call" else others))
    return (kind,)


def order_program(chance, hands=3, boxes=2, greatest=4, rows=5, deep=True, begins=True, texts=2, own=1):
    """A small program of so many hands at most; where it isn't deep texts call only later ones."""
    common = tuple((name, chance.randint(1, greatest)) for name in "xy"[:chance.randint(0, boxes)])
    names = ["one", "two", "three"][:chance.randint(1, hands)]
    told = []
    for name in names:
        mine = tuple((title, chance.randint(1, greatest)) for title in "ab"[:chance.randint(0, own)])
        titles = ["top", "sub"][:chance.randint(1, texts)]
        others = [other for other in names if other != name] if begins and chance.random() < 0.4 else []
        made = []
        for number, title in enumerate(titles):
            many = chance.randint(1, rows)
            called = titles if deep else titles[number + 1:]
            lines = []
            while len(lines) < many:
                row = some_order_row(chance, dict(common + mine), called, others, many)
                # Most faults stand behind a row that waits, so that they take some turns.
                waits = bool(lines) and lines[-1][0] == "wait"
                if waits and chance.random() < 0.5:
                    lines.append(FAULT)
                elif row != FAULT or chance.random() < 0.1:
                    lines.append(row)
            made.append((title, tuple(lines)))
        told.append((name, mine, tuple(made)))
    return common, tuple(told)


def some_noise(chance, deep):
    """Rows that turn nothing common, in which the hand may call as deep as it likes, behind which it goes on."""
    return chance.choice([[], [("set", "a", ("any",))], [("call", "sub")], [("set", "a", ("on", 1)), ("call", "sub")] if deep else [("call", "sub")]])


def relay_program(chance, turns, hands=2, deep=True, begins=False):
    """A program whose hands hand a box on to one another, so many turns at most being needed to a fault."""
    names = ["one", "two", "three"][:hands]
    order = [chance.randrange(hands)]
    while len(order) < turns:
        order.append(chance.choice([hand for hand in range(hands) if hand != order[-1]]))
    rows = [[] for name in names]
    value = 0
    for number, hand in enumerate(order):
        onward = chance.choice([known for known in range(3) if known != value])
        rows[hand].extend(some_noise(chance, deep) + [("wait", "x", value)])
        rows[hand].append(("set", "x", ("to", onward)) if number + 1 < turns else FAULT)
        value = onward
    told = []
    for hand, name in enumerate(names):
        lines = rows[hand] or [("wait", "x", 2)]
        if begins and hand == 0:
            lines = [("begin", other) for other in names[1:]] + lines
        # Some rows are changed, so that a fault may need fewer turns, or can't be come to.
        if chance.random() < 0.3:
            at = chance.randrange(len(lines))
            lines[at] = chance.choice([("set", "x", ("any",)), ("wait", "x", chance.randrange(3)), ("go", (at, at + 1)), lines[at]])
        sub = [("go", (1, 2)), ("call", "sub"), ("set", "a", ("any",))] if deep else [("set", "a", ("on", 1)), ("if", "a", 1, 0)]
        told.append((name, (("a", 2),), (("top", tuple(lines)), ("sub", tuple(sub)))))
    return (("x", 3),), tuple(told)
