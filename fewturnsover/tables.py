"""Tables of a hand by itself, of what its turns lead from and to; and tables of all hands joined."""

from fewturnsover.books import has_fault
from fewturnsover.entries import begins_with_fault, first_machine
from fewturnsover.errors import TooMany
from fewturnsover.growing import grown_by
from fewturnsover.handmachines import commons_of, lengthened, shortened
from fewturnsover.layout import layout_of
from fewturnsover.least import least
from fewturnsover.machines import controls_of, far_from_end
from fewturnsover.programs import look_at_hand
from fewturnsover.turning import common_boxes

MOST_TUPLES = 2000


def commons_with(layout, hand):
    """Tell all common states in which a hand is begun, rising; refuse more than there may be tuples of them."""
    found = [()]
    for place, (name, size) in enumerate(common_boxes(layout.whole)):
        values = (1,) if place == layout.begun_from + hand else tuple(range(size))
        # Each of them leads to itself by a turn of no steps, so there would be a tuple for each, beside the empty one.
        if len(found) * len(values) >= MOST_TUPLES:
            raise TooMany(MOST_TUPLES)
        found = [known + (value,) for known in found for value in values]
    return found


def none_falls(layout, ahead, behind):
    """Tell whether all hands that are begun in one common state are so in the other."""
    many = layout.begun_from
    return all([one <= other for one, other in zip(ahead[many:], behind[many:])])


class Table:
    """A hand's table as it is made: `machines` by tuples of pairs (from, to), and `faults`."""

    def __init__(self, layout, hand):
        self.layout = layout
        self.hand = hand
        self.machines = {(): first_machine(layout, hand)}
        self.faults = []
        self.known_turns = {}

    def turn_from(self, common, machine):
        """Tell what a turn leads to, made once: whether to a fault, and tuples (common, machine)."""
        key = (common, machine)
        if key not in self.known_turns:
            grown = grown_by(self.layout, self.hand, lengthened(machine, common))
            commons = commons_of(controls_of(grown), len(common))
            ways = [(known, least(shortened(grown, known))) for known in commons]
            self.known_turns[key] = (has_fault(self.layout, self.hand, grown, far_from_end(grown)), ways)
        return self.known_turns[key]

    def put_turn(self, pairs, common):
        """Put in what a turn that begins at a common state leads to behind pairs; tell the new tuples of pairs."""
        faulty, ways = self.turn_from(common, self.machines[pairs])
        if faulty:
            self.faults.append((pairs, common))
        if len(self.machines) + len(ways) > MOST_TUPLES:
            raise TooMany(MOST_TUPLES)
        for known, machine in ways:
            self.machines[pairs + ((common, known),)] = machine
        return [pairs + ((common, known),) for known, machine in ways]

    def put_turns(self, many):
        """Put in what so many turns lead to."""
        front = [()]
        commons = commons_with(self.layout, self.hand) if many > 0 else []
        for count in range(many):
            ahead = []
            for pairs in front:
                for common in commons:
                    if not pairs or none_falls(self.layout, pairs[-1][1], common):
                        ahead.extend(self.put_turn(pairs, common))
            front = ahead


def table_of(program, hand, many):
    """Tell (dict, list): a hand's table of so many turns, and its faults."""
    layout = layout_of(program)
    look_at_hand(program, hand)
    table = Table(layout, hand)
    table.put_turns(many)
    return table.machines, sorted(table.faults)


class Joining:
    """Tables of all hands, put so that the turns which they have at a common state are looked up.

    A place is a tuple (common, tuple of the pairs that each hand has gone by).
    """

    def __init__(self, layout, tables):
        self.layout = layout
        self.ways = []
        self.faults = []
        for machines, faults in tables:
            ways = {}
            for pairs in machines:
                if pairs:
                    common, known = pairs[-1]
                    ways.setdefault((pairs[:-1], common), []).append(known)
            self.ways.append(ways)
            self.faults.append({fault: True for fault in faults})

    def goers(self, common):
        """Tell the hands that are begun in a common state."""
        begun = common[self.layout.begun_from:]
        return [hand for hand, number in enumerate(begun) if number == 1]

    def leads_to_fault(self, place):
        """Tell whether one turn more leads from a place to a fault, or begins a hand that stands at one."""
        common, gone = place
        there = [True if number == 1 else None for number in common[self.layout.begun_from:]]
        for hand in self.goers(common):
            key = (gone[hand], common)
            if key in self.faults[hand]:
                return True
            if any([begins_with_fault(self.layout, known, there) for known in self.ways[hand].get(key, [])]):
                return True
        return False

    def places_behind(self, place):
        """Tell the places to which one turn leads from a place."""
        common, gone = place
        told = []
        for hand in self.goers(common):
            for known in self.ways[hand].get((gone[hand], common), []):
                pairs = gone[hand] + ((common, known),)
                told.append((known, gone[:hand] + (pairs,) + gone[hand + 1:]))
        return told


def joined(program, tables, most):
    """Tell the least number of turns, up to a number, by which tables of all hands tell of a fault, or None."""
    layout = layout_of(program)
    common = layout.first_common()
    hands = len(layout.texts)
    if begins_with_fault(layout, common, (None,) * hands):
        return 0
    joining = Joining(layout, tables)
    front = [(common, ((),) * hands)]
    turns = 1
    while turns <= most and front:
        if any([joining.leads_to_fault(place) for place in front]):
            return turns
        if turns < most:
            front = [behind for place in front for behind in joining.places_behind(place)]
        turns += 1
    return None
