"""A small looker that lets books by: lists of entries in which no fault stands, however the turns go."""

from fewturnsover.closing import is_closed_by
from fewturnsover.errors import NoLimit
from fewturnsover.forms import are_values, is_between, is_tuple
from fewturnsover.handmachines import commons_of, shortened
from fewturnsover.layout import layout_of
from fewturnsover.limits import covers, is_limit_of, less, may_go
from fewturnsover.machines import controls_of, far_from_end, is_machine, living_edges, reads, states_by_control
from fewturnsover.pairs import lets_pairs
from fewturnsover.standings import FIRST_PILE
from fewturnsover.turning import common_boxes, is_of_own, is_of_turn


def has_fault(layout, hand, machine, far):
    """Tell whether a machine of a hand reads a pile whose first point is a fault's."""
    states = {state: True for known in states_by_control(machine, far).values() for state in known}
    edges = living_edges(machine, far)
    points = {point: True for state, point, other in edges if state in states}
    return any([layout.is_fault(hand, point) for point in points])


def reads_first(layout, hand, machine):
    """Tell whether a hand's machine reads its values and pile at first."""
    return reads(machine, (0,) * len(layout.whole[1][hand][1]), FIRST_PILE)


def is_machine_at(layout, hand, begun, thing):
    """Tell of anything whether it can stand for a hand in an entry: None, or a machine of its own without a fault."""
    if begun == 0:
        return thing is None
    if not is_machine(thing):
        return False
    far = far_from_end(thing)
    return is_of_own(layout.whole, hand, thing, far) and not has_fault(layout, hand, thing, far)


def is_entry(layout, thing):
    """Tell of anything whether it is an entry without a fault, whatever its turns are by themselves."""
    if not is_tuple(thing, 5, 5):
        return False
    limit, common, machines, last, turns = thing
    many = len(layout.texts)
    if not is_limit_of(layout.whole, limit) or not are_values(common, common_boxes(layout.whole)):
        return False
    if not is_tuple(machines, many, many) or not is_tuple(turns, many, many):
        return False
    if last is not None and not is_between(last, 0, many - 1):
        return False
    begun = common[layout.begun_from:]
    return all([is_machine_at(layout, hand, begun[hand], machine) for hand, machine in enumerate(machines)])


def is_first_entry(layout, limit, entry):
    """Tell whether an entry can be the first one for a limit."""
    covering, common, machines, last, turns = entry
    if not covers(covering, limit) or last is not None or common != layout.first_common():
        return False
    return all([machine is None or reads_first(layout, hand, machine) for hand, machine in enumerate(machines)])


class Looker:
    """A program with a list of entries, and which machines of turns were found to be closed and without a fault."""

    def __init__(self, layout, entries):
        self.layout = layout
        self.entries = entries
        self.known_turns = {}

    def is_safe_turn(self, hand, thing):
        """Tell of anything whether it is a closed machine of a hand's turn that has no fault."""
        if not is_machine(thing):
            return False
        key = (hand, thing)
        if key not in self.known_turns:
            far = far_from_end(thing)
            safe = is_of_turn(self.layout.whole, hand, thing, far) and not has_fault(self.layout, hand, thing, far)
            self.known_turns[key] = safe and is_closed_by(self.layout, hand, thing, far)
        return self.known_turns[key]

    def lets_entry(self, entry):
        """Tell whether all turns that an entry has to have are let by."""
        limit, common, machines, last, turns = entry
        for hand, machine in enumerate(machines):
            if machine is not None and hand != last and may_go(limit, hand):
                if not self.lets_turn(entry, hand, turns[hand]):
                    return False
        return True

    def lets_turn(self, entry, hand, thing):
        """Tell of anything whether it can stand for a hand's turn in an entry."""
        if not is_tuple(thing, 3, 3):
            return False
        machine, pairs, links = thing
        common = entry[1]
        if not self.is_safe_turn(hand, machine) or not lets_pairs(entry[2][hand], machine, pairs, ahead=common):
            return False
        commons = commons_of(controls_of(machine), len(common))
        if not is_tuple(links, len(commons), len(commons)):
            return False
        return all([self.lets_link(entry, hand, machine, known, link) for known, link in zip(commons, links)])

    def lets_link(self, entry, hand, machine, common, thing):
        """Tell of anything whether it is the link of a hand's turn for a common state of which its machine reads."""
        if not is_tuple(thing, 3, 3):
            return False
        known, number, pairs = thing
        if not are_values(known, common_boxes(self.layout.whole)) or known != common:
            return False
        if not is_between(number, 0, len(self.entries) - 1) or not self.leads_to(entry, hand, common, number):
            return False
        return lets_pairs(shortened(machine, common), self.entries[number][2][hand], pairs)

    def leads_to(self, entry, hand, common, number):
        """Tell whether a hand's turn can lead from an entry to that of a number, whatever its machine there."""
        limit, there, machines, last, turns = self.entries[number]
        if there != common or last is not None and last != hand or not covers(limit, less(entry[0], hand)):
            return False
        for other, machine in enumerate(machines):
            ahead = entry[2][other]
            if other == hand:
                continue
            if ahead is None:
                if machine is not None and not reads_first(self.layout, other, machine):
                    return False
            elif machine != ahead:
                return False
        return True


def lets_book(program, limit, thing):
    """Tell of anything whether it is a book that is let by for a limit."""
    layout = layout_of(program)
    if not is_limit_of(program, limit):
        raise NoLimit()
    if not isinstance(thing, list) or not thing or not all([is_entry(layout, entry) for entry in thing]):
        return False
    looker = Looker(layout, thing)
    return is_first_entry(layout, limit, thing[0]) and all([looker.lets_entry(entry) for entry in thing])
