"""Machines gone by plainly, set by set, to hold the program's machines against; and ways to change them."""

import itertools

from tests.reference import steps_of


def machine_of(begins, edges, ends):
    """A machine of things in whatever order, some perhaps twice."""
    return tuple(sorted(set(begins))), tuple(sorted(set(edges))), tuple(sorted(set(ends)))


def living(machine):
    """The states from which an end can be come to."""
    found = set(machine[2])
    while True:
        more = {state for state, point, other in machine[1] if other in found} - found
        if not more:
            return found
        found |= more


def ways(machine, states, pile):
    """The states to which edges lead from some of these by a pile."""
    for point in pile:
        states = {other for state, known, other in machine[1] if known == point and state in states}
    return states


def points_of(*machines):
    return sorted({point for machine in machines for state, point, other in machine[1]})


def all_piles(points, most):
    """All piles of the points, of as few points as can be first, then as tuples are sorted."""
    for many in range(most + 1):
        yield from itertools.product(points, repeat=many)


def read_by(machine, control, pile):
    begins = {state for known, state in machine[0] if known == control}
    return bool(ways(machine, begins, pile) & set(machine[2]))


def all_read(machine, points, most):
    """All (control, pile) that are read, piles to so many points."""
    controls = sorted({control for control, state in machine[0]})
    return [(control, pile) for control in controls for pile in all_piles(points, most) if read_by(machine, control, pile)]


def states_in(machine):
    found = {state for control, state in machine[0]} | set(machine[2])
    return sorted(found | {state for edge in machine[1] for state in (edge[0], edge[2])})


def renumbered(machine, names):
    """The machine with other numbers of states, a dict."""
    begins, edges, ends = machine
    return machine_of([(control, names[state]) for control, state in begins],
                      [(names[state], point, names[other]) for state, point, other in edges], [names[state] for state in ends])


def joined(one, other):
    return machine_of(one[0] + other[0], one[1] + other[1], one[2] + other[2])


def twice(machine):
    """The machine with each state doubled, edges leading from each to each."""
    begins, edges, ends = machine
    both = (0, 1000)
    return machine_of([(control, state + more) for control, state in begins for more in both],
                      [(state + a, point, other + b) for state, point, other in edges for a in both for b in both],
                      [state + more for state in ends for more in both])


def without(machine, part, at):
    """The machine with one begin, edge or end left out."""
    return tuple(items[:at] + items[at + 1:] if number == part else items for number, items in enumerate(machine))


def each_without(machine):
    for part in range(3):
        for at in range(len(machine[part])):
            yield without(machine, part, at)


def all_over(machine):
    """The pairs (one, other), one over the other, of all states, by the greatest relation."""
    alive, ends, states = living(machine), set(machine[2]), states_in(machine)
    found = {(one, other) for one in states for other in states if other not in ends or one in ends}
    while True:
        wrong = set()
        for one, other in found:
            for state, point, onward in machine[1]:
                if state == other and onward in alive:
                    if not any((way, onward) in found for way in ways(machine, {one}, (point,))):
                        wrong.add((one, other))
        if not wrong:
            return found
        found -= wrong


def moves(program, hand, control, point):
    """The (choice, control, points) of a hand's steps at a point."""
    many = len(program[0]) + len(program[1])
    places = []
    for number, (name, own, texts) in enumerate(program[1]):
        begun = control[len(program[0]) + number]
        places.append(((0,) * len(own), ()) if begun else None)
    places[hand] = (control[many:], (point,))
    found = steps_of(program, (control[:many], tuple(places)), hand)
    return [(choice, common + after[hand][0], after[hand][1]) for choice, (common, after) in found]


def is_turn_of(program, hand, machine):
    """Whether controls and points of what is read are a hand's."""
    alive = living(machine)
    boxes, hands = program
    sizes = [size for name, size in boxes] + [2] * len(hands) + [size for name, size in hands[hand][1]]
    for control, state in machine[0]:
        if state in alive:
            if len(control) != len(sizes) or not all(0 <= value < size for value, size in zip(control, sizes)):
                return False
            if control[len(boxes) + hand] != 1:
                return False
    texts = hands[hand][2]
    return all(text < len(texts) and row <= len(texts[text][1]) for state, (text, row), other in machine[1] if other in alive)


def closed_plainly(program, hand, machine):
    """Whether a machine is a closed one, by its words."""
    if not is_turn_of(program, hand, machine):
        return False
    alive, over = living(machine), all_over(machine)
    for control, state in machine[0]:
        for begin, point, target in machine[1]:
            if begin == state and target in alive:
                for choice, onward, points in moves(program, hand, control, point):
                    states = {known for found, known in machine[0] if found == onward}
                    if not any((one, target) in over for one in ways(machine, states, points)):
                        return False
    return True


def grown_plainly(program, hand, machine):
    """A machine, not the least one, of all that a hand comes to from what a machine reads: rows gone by until nothing is new.

    Begins are states of their own, so that no edge leads to one; what a text is called with is a state of
    control and text.
    """
    alive = living(machine)
    names = {}

    def name(thing):
        return names.setdefault(thing, len(names))

    edges = {(name(state), point, name(other)) for state, point, other in machine[1] if other in alive}
    ends = {name(state) for state in machine[2]}
    begun = {}
    for control, state in machine[0]:
        if state in alive:
            begun[control] = name(("control", control))
            edges |= {(begun[control], point, other) for known, point, other in set(edges) if known == name(state)}
            if state in machine[2]:
                ends.add(begun[control])
    while True:
        more, over = set(), set()
        for control, first in list(begun.items()):
            for state, point, other in list(edges):
                if state != first:
                    continue
                for choice, onward, points in moves(program, hand, control, point):
                    begin = begun.setdefault(onward, name(("control", onward)))
                    if len(points) == 2:
                        middle = name((onward, points[0]))
                        more |= {(begin, points[0], middle), (middle, points[1], other)}
                    elif len(points) == 1:
                        more.add((begin, points[0], other))
                    else:
                        more |= {(begin, known, after) for before, known, after in edges if before == other}
                        if other in ends:
                            over.add(begin)
        if more <= edges and over <= ends:
            return machine_of(begun.items(), edges, ends)
        edges |= more
        ends |= over


def gone(program, hand, starts, most):
    """All (control, pile) that a hand comes to from some by so many steps at most."""
    found = set(starts)
    front = list(found)
    for count in range(most):
        ahead = []
        for control, pile in front:
            if pile:
                for choice, onward, points in moves(program, hand, control, pile[0]):
                    there = (onward, points + pile[1:])
                    if there not in found:
                        found.add(there)
                        ahead.append(there)
        front = ahead
    return found
