"""Closed machines: what a hand comes to from what such a machine reads, it reads too."""

from fewturnsover.layout import layout_of
from fewturnsover.machines import by_points, far_from_end, is_machine, living_edges, states_by_control
from fewturnsover.overs import Overs
from fewturnsover.programs import look_at_hand
from fewturnsover.turning import is_of_turn


def behind_points(states, edges, points):
    """Tell the states to which edges lead from some of these by the points."""
    for point in points:
        states = list({other: True for state in states for other in edges.get(state, {}).get(point, [])})
    return states


def targets_of(states, edges):
    """Tell a dict from points to dicts of the states to which edges lead by them from some of these."""
    found = {}
    for state in states:
        for point, behind in edges.get(state, {}).items():
            known = found.setdefault(point, {})
            for other in behind:
                known[other] = True
    return found


def demands_of(layout, hand, machine, far):
    """Tell what has to be for the machine to be closed: tuples (states, other), one of the states over the other."""
    edges = by_points(living_edges(machine, far))
    states = states_by_control(machine, far)
    demands = []
    for control in states:
        for point, others in targets_of(states[control], edges).items():
            for choice, onward, points in layout.moves(hand, control, point):
                # A state over one from which an end can be come to is itself one of these.
                found = behind_points(states.get(onward, []), edges, points)
                demands.extend([(found, other) for other in others if other not in found])
    return demands


def is_closed_by(layout, hand, machine, far):
    """Tell whether a machine of a hand's turn is closed."""
    demands = demands_of(layout, hand, machine, far)
    overs = Overs(machine, far)
    for states, other in demands:
        for state in states:
            overs.ask_for((state, other))
    overs.look_at_all()
    return all([any([overs.holds((one, below)) for one in found]) for found, below in demands])


def is_closed(program, hand, thing):
    """Tell of anything whether it is a closed machine of a hand's turn."""
    layout = layout_of(program)
    look_at_hand(program, hand)
    if not is_machine(thing):
        return False
    far = far_from_end(thing)
    return is_of_turn(program, hand, thing, far) and is_closed_by(layout, hand, thing, far)
