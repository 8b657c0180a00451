"""What a hand comes to in a turn, as a machine, and how it comes there."""

from fewturnsover.errors import NoMachine
from fewturnsover.growth import empty_path_of, growth_of, choices_back, path_of
from fewturnsover.layout import layout_of
from fewturnsover.least import least
from fewturnsover.machines import by_points, far_from_end, is_machine, least_pile
from fewturnsover.machines import living_edges, reads, states_by_control
from fewturnsover.programs import look_at_hand
from fewturnsover.turning import is_of_turn


def layout_for_turn(program, hand, machine):
    """Tell the layout of a program; refuse what is none, then no hand, then no machine of the hand's turn."""
    layout = layout_of(program)
    look_at_hand(program, hand)
    if not is_machine(machine) or not is_of_turn(program, hand, machine, far_from_end(machine)):
        raise NoMachine()
    return layout


def grown_by(layout, hand, machine):
    """Tell what grown tells, of a machine that is one of the hand's turn."""
    return least(growth_of(layout, hand, machine, far_from_end(machine)).as_machine())


def fault_by(layout, hand, machine):
    """Tell what fault_in tells, of a machine that is one of the hand's turn."""
    far = far_from_end(machine)
    edges = by_points(living_edges(machine, far))
    states = states_by_control(machine, far)
    for control in states:
        found = []
        for state in states[control]:
            for point, behind in edges.get(state, {}).items():
                if layout.is_fault(hand, point):
                    # No state has a number below nought, so this one is a begin by these edges alone.
                    found.extend([(-1, point, other) for other in behind])
        if found:
            pile = least_pile((((control, -1),), machine[1] + tuple(found), machine[2]), control)
            return control, pile
    return None


def stretch_by(layout, hand, machine, control, pile):
    """Tell what stretch tells, of a machine that is one of the hand's turn."""
    if reads(machine, control, pile):
        return control, pile, []
    growth = growth_of(layout, hand, machine, far_from_end(machine))
    path = path_of(growth, control, pile) if pile else empty_path_of(growth, control)
    if path is None:
        return None
    # Where the hand is over, what its last edge reads is left by one step more, back.
    behind = [] if pile else [None]
    choices = choices_back(growth, path)
    begin = growth.control_of[path[-1][0]]
    return begin, tuple([point for state, point, other in reversed(path)]), choices[::-1] + behind


def grown(program, hand, machine):
    """Tell the least machine of all that a hand comes to from what a machine of its turn reads."""
    return grown_by(layout_for_turn(program, hand, machine), hand, machine)


def fault_in(program, hand, machine):
    """Tell the first (control, pile) that a machine of a hand's turn reads at a fault, or None."""
    return fault_by(layout_for_turn(program, hand, machine), hand, machine)


def stretch(program, hand, machine, control, pile):
    """Tell (control, pile, choices): what a machine reads, and how a hand goes from there to these; or None."""
    return stretch_by(layout_for_turn(program, hand, machine), hand, machine, control, pile)
