"""The least machine that reads what a machine reads."""

from fewturnsover.classes import classes_of
from fewturnsover.machines import by_points, far_from_end, living_edges, states_by_control


class Lots:
    """Lots of a machine's states, numbered as they are come to, and the ways between them.

    A lot is all states that are come to together, so by a point one way at most goes from it. States from
    which no end can be come to are in none.
    """

    def __init__(self, machine):
        self.far = far_from_end(machine)
        self.ahead = by_points(living_edges(machine, self.far))
        self.numbers = {}
        self.lots = []
        self.ways = []
        states = states_by_control(machine, self.far)
        self.first = [(control, self.number_of(states[control])) for control in states]
        while len(self.ways) < len(self.lots):
            self.ways.append(self.ways_from(self.lots[len(self.ways)]))

    def number_of(self, states):
        """Tell the number of a lot, a new one where it wasn't come to yet."""
        lot = tuple(sorted(states))
        if lot not in self.numbers:
            self.numbers[lot] = len(self.lots)
            self.lots.append(lot)
        return self.numbers[lot]

    def ways_from(self, lot):
        """Tell a list of (point, lot's number), rising."""
        found = {}
        for state in lot:
            for point, others in self.ahead.get(state, {}).items():
                known = found.setdefault(point, {})
                for other in others:
                    known[other] = True
        return [(point, self.number_of(list(found[point]))) for point in sorted(found)]

    def nearest(self):
        """Tell, lot by lot, the fewest points to an end."""
        return [min([self.far[state] for state in lot]) for lot in self.lots]


def in_order(lots, classes):
    """Tell a dict from classes to one lot of each, as they are come to."""
    found = {}
    waiting = [lot for control, lot in lots.first]
    at = 0
    while at < len(waiting):
        lot = waiting[at]
        if classes[lot] not in found:
            found[classes[lot]] = lot
            waiting.extend([other for point, other in lots.ways[lot]])
        at += 1
    return found


def least(machine):
    """Tell the least machine that reads just what a machine reads."""
    lots = Lots(machine)
    nearest = lots.nearest()
    # Lots that read the same on have the same fewest points; most others are told apart by these at once.
    kinds = [(many, tuple([point for point, other in ways])) for many, ways in zip(nearest, lots.ways)]
    classes = classes_of(lots.ways, kinds)
    order = in_order(lots, classes)
    numbers = {known: number for number, known in enumerate(order)}
    begins = [(control, numbers[classes[lot]]) for control, lot in lots.first]
    edges = []
    for known, lot in order.items():
        edges.extend([(numbers[known], point, numbers[classes[other]]) for point, other in lots.ways[lot]])
    ends = [numbers[known] for known, lot in order.items() if nearest[lot] == 0]
    return tuple(begins), tuple(edges), tuple(ends)
