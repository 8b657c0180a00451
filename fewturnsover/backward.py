"""A run led back from a fault, turn by turn, through the entries on the way."""

from fewturnsover.growing import grown_by, stretch_by
from fewturnsover.handmachines import lengthened, shortened
from fewturnsover.machines import controls_of, least_pile
from fewturnsover.runs import put_together


def some_place(layout, hand, machine, common):
    """Tell values and a pile to which a hand comes by a turn, from what a machine reads, at this common state."""
    short = shortened(grown_by(layout, hand, machine), common)
    values = controls_of(short)[0]
    return values, least_pile(short, values)


def legs_of(entries):
    """Tell the turns to the fault, last one first: (number of the entry ahead, hand, common behind)."""
    if entries.faulty_at_first:
        return []
    number, hand, control, pile = entries.fault
    many = len(entries.heads[0][1])
    legs = [(number, hand, control[:many])]
    while entries.came[number][0] is not None:
        common = entries.heads[number][1]
        number, hand = entries.came[number]
        legs.append((number, hand, common))
    return legs


def run_to_fault(layout, entries):
    """Tell a run to the fault of the entries, of no turns where it stands at first.

    What each hand may be at hangs on its own turns and the common states alone. So each turn is led back by
    itself, from where its hand has to be behind it; a hand that needs to be nowhere is put anywhere.
    """
    places = {}
    if entries.fault is not None and entries.fault[3] is not None:
        number, hand, control, pile = entries.fault
        places[hand] = (control[len(entries.heads[0][1]):], pile)
    turns = []
    for number, hand, common in legs_of(entries):
        limit, ahead, machines, last = entries.heads[number]
        machine = lengthened(machines[hand], ahead)
        if hand not in places:
            places[hand] = some_place(layout, hand, machine, common)
        values, pile = places[hand]
        begin, start, choices = stretch_by(layout, hand, machine, common + values, pile)
        places[hand] = (begin[len(common):], start)
        if choices:
            turns.append((hand, choices))
    return put_together(turns[::-1])
