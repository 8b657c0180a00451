"""Pairs of states, which show that all that one machine reads another one reads."""

from fewturnsover.forms import is_tuple
from fewturnsover.least import least
from fewturnsover.machines import by_points, controls_of, far_from_end, is_from_nought, least_pile, living_edges


def is_pair(thing):
    """Tell of anything whether it is a pair of states."""
    return is_tuple(thing, 2, 2) and is_from_nought(thing[0]) and is_from_nought(thing[1])


def are_pairs(thing):
    """Tell of anything whether it is pairs of states."""
    return isinstance(thing, tuple) and all([is_pair(pair) for pair in thing])


def begins_have_pairs(one, other, known, ahead, far):
    """Tell whether each state of a control of one, with an end ahead of it, has a pair of the lengthened control."""
    states = {}
    for control, state in other[0]:
        states.setdefault(control, []).append(state)
    for control, state in one[0]:
        if state in far and not any([(state, partner) in known for partner in states.get(ahead + control, [])]):
            return False
    return True


def go_on(pair, edges, others, known):
    """Tell whether by each edge of the pair's one state some edge of its other leads to a pair."""
    state, partner = pair
    partners = others.get(partner, {})
    for point, behind in edges.get(state, {}).items():
        for onward in behind:
            if not any([(onward, found) in known for found in partners.get(point, [])]):
                return False
    return True


def lets_pairs(one, other, thing, *, ahead=()):
    """Tell of anything as pairs whether they show that the other reads all that one reads, lengthened ahead."""
    if not are_pairs(thing):
        return False
    known = {pair: True for pair in thing}
    far = far_from_end(one)
    if not begins_have_pairs(one, other, known, ahead, far):
        return False
    edges = by_points(living_edges(one, far))
    others = by_points(other[1])
    ends = {state: True for state in other[2]}
    for pair in known:
        if pair[0] in far:
            # No points to an end are those of an end itself.
            if far[pair[0]] == 0 and pair[1] not in ends or not go_on(pair, edges, others, known):
                return False
    return True


class Beside:
    """A machine gone on by beside a least one: states (state, the least one's state or None), numbered.

    Where a state is an end and the other isn't, the first machine alone reads what led there.
    """

    def __init__(self, one, other, ahead):
        self.far = far_from_end(one)
        self.edges = by_points(living_edges(one, self.far))
        self.others = {(state, point): onward for state, point, onward in other[1]}
        self.ends = {state: True for state in other[2]}
        self.numbers = {}
        self.waiting = []
        states = {control: state for control, state in other[0]}
        self.begins = []
        for control, state in one[0]:
            if state in self.far:
                self.begins.append((control, self.number_of((state, states.get(ahead + control)))))

    def number_of(self, pair):
        """Tell the number of a pair, a new one where it wasn't come to yet."""
        if pair not in self.numbers:
            self.numbers[pair] = len(self.numbers)
            self.waiting.append(pair)
        return self.numbers[pair]

    def alone(self):
        """Tell a machine that reads just what the first one alone reads."""
        edges = []
        at = 0
        while at < len(self.waiting):
            state, other = self.waiting[at]
            for point, behind in self.edges.get(state, {}).items():
                found = self.others.get((other, point))
                edges.extend([(at, point, self.number_of((onward, found))) for onward in behind])
            at += 1
        ends = [self.numbers[pair] for pair in self.numbers if self.far[pair[0]] == 0 and pair[1] not in self.ends]
        return tuple(self.begins), tuple(edges), tuple(ends)


def inside(one, other, *, ahead=()):
    """Tell (`pairs`, pairs) where the other reads all that one reads, lengthened; else (`only`, control, pile)."""
    beside = Beside(one, least(other), ahead)
    alone = beside.alone()
    controls = controls_of(alone)
    if controls:
        return "only", controls[0], least_pile(alone, controls[0])
    return "pairs", tuple(sorted(beside.numbers))
