"""Entries of a book as they come, turn by turn, each once; and the first fault on the way."""

from fewturnsover.errors import TooMany
from fewturnsover.growing import fault_by, grown_by
from fewturnsover.handmachines import commons_of, lengthened, shortened
from fewturnsover.least import least
from fewturnsover.limits import less, may_go
from fewturnsover.machines import controls_of
from fewturnsover.pairs import inside

MOST_ENTRIES = 400


def first_machine(layout, hand):
    """Tell the least machine that reads a hand's values and pile at first."""
    values = (0,) * len(layout.whole[1][hand][1])
    return (((values, 0),), ((0, (0, 0), 1),), (1,))


def with_first(layout, common, machines):
    """Tell the machines with those of the hands that are begun by the common state, and weren't ahead of it."""
    begun = common[layout.begun_from:]
    told = []
    for hand, machine in enumerate(machines):
        told.append(first_machine(layout, hand) if machine is None and begun[hand] == 1 else machine)
    return tuple(told)


def begins_with_fault(layout, common, machines):
    """Tell whether a hand that is begun by the common state, and wasn't ahead of it, has a fault as its first row."""
    begun = common[layout.begun_from:]
    found = [hand for hand, machine in enumerate(machines) if machine is None and begun[hand] == 1]
    return any([layout.is_fault(hand, (0, 0)) for hand in found])


class Turn:
    """What a hand comes to by a turn from a common state and what a machine of its own reads.

    `fault` is the first (control, pile) at a fault, or None; where it is None `pairs` show that the turn's
    machine reads all that was read ahead of it, and `ways` tells (common, machine, pairs): of each common state
    that is come to the hand's least machine of its own, and pairs of the turn's machine and that.
    """

    def __init__(self, layout, hand, common, machine):
        self.grown = grown_by(layout, hand, lengthened(machine, common))
        self.fault = fault_by(layout, hand, self.grown)
        self.pairs = ()
        self.ways = []
        if self.fault is None:
            # What has grown is itself the least machine, so these are pairs of the machine and it.
            self.pairs = inside(machine, self.grown, ahead=common)[1]
            for known in commons_of(controls_of(self.grown), len(common)):
                short = shortened(self.grown, known)
                onward = least(short)
                self.ways.append((known, onward, inside(short, onward)[1]))


def folded_head(head, lots):
    """Tell an entry in a form that is the same for all that are the same but for hands of a lot exchanged."""
    limit, common, machines, last = head
    places = [(machine, hand == last) for hand, machine in enumerate(machines)]
    for lot in lots:
        ordered = sorted([places[hand] for hand in lot])
        for hand, place in zip(lot, ordered):
            places[hand] = place
    return limit, common, tuple(places)


class Entries:
    """The entries that come from a first one, in the order of how many turns they take.

    Entries that are the same but for hands of one of the lots exchanged come once. `heads` has of each entry
    (limit, common, machines, last); `came` of each the number of the one that it came from and the hand that
    went; `tuples` of each that has gone on a tuple of what a book has for each hand. `fault` is, as soon as
    there is one, (number, hand, control, pile): from that entry the hand comes there, and there faults, or has
    just begun a hand that faults, where the pile is None.
    """

    def __init__(self, layout, limit, lots):
        self.layout = layout
        self.lots = lots
        self.numbers = {}
        self.heads = []
        self.came = []
        self.tuples = []
        self.fault = None
        self.known_turns = {}
        common = layout.first_common()
        nobody = (None,) * len(layout.texts)
        self.faulty_at_first = begins_with_fault(layout, common, nobody)
        self.number_of((limit, common, with_first(layout, common, nobody), None), None, None)

    def number_of(self, head, ahead, hand):
        """Tell the number of an entry, a new one where it didn't come yet."""
        key = folded_head(head, self.lots)
        if key not in self.numbers:
            if len(self.heads) == MOST_ENTRIES:
                raise TooMany(MOST_ENTRIES)
            self.numbers[key] = len(self.heads)
            self.heads.append(head)
            self.came.append((ahead, hand))
        return self.numbers[key]

    def turn_of(self, hand, common, machine):
        """Tell the turn of a hand, made once."""
        key = (hand, common, machine)
        if key not in self.known_turns:
            self.known_turns[key] = Turn(self.layout, hand, common, machine)
        return self.known_turns[key]

    def go_on(self, number):
        """Go on by each hand from an entry, until there is a fault."""
        limit, common, machines, last = self.heads[number]
        found = []
        for hand, machine in enumerate(machines):
            if self.fault is not None or machine is None or hand == last or not may_go(limit, hand):
                found.append(None)
            else:
                found.append(self.go_by(number, hand))
        self.tuples.append(tuple(found))

    def go_by(self, number, hand):
        """Go on by a hand from an entry; tell (machine, pairs, links), or None where there is a fault."""
        limit, common, machines, last = self.heads[number]
        turn = self.turn_of(hand, common, machines[hand])
        if turn.fault is not None:
            self.fault = (number, hand) + turn.fault
            return None
        links = []
        for known, machine, pairs in turn.ways:
            if begins_with_fault(self.layout, known, machines):
                self.fault = (number, hand, known, None)
                return None
            there = with_first(self.layout, known, machines[:hand] + (machine,) + machines[hand + 1:])
            links.append((known, self.number_of((less(limit, hand), known, there, hand), number, hand), pairs))
        return turn.grown, turn.pairs, tuple(links)

    def book(self):
        """Tell the book of all entries, when all have gone on."""
        return [head + (turns,) for head, turns in zip(self.heads, self.tuples)]

    def go_round(self):
        """Go on from each entry that is there, until there is a fault; tell whether new ones came."""
        there = len(self.heads)
        while not self.has_fault() and len(self.tuples) < there:
            self.go_on(len(self.tuples))
        return len(self.heads) > there

    def has_fault(self):
        """Tell whether there is a fault, at first or later."""
        return self.faulty_at_first or self.fault is not None


def entries_of(layout, limit, lots=()):
    """Tell the entries that come for a limit, all, or those until the first fault."""
    entries = Entries(layout, limit, lots)
    while entries.go_round() and not entries.has_fault():
        pass
    return entries
