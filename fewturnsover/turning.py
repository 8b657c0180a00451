"""Machines of a hand: of its turn, by controls, or of its own values alone."""

from fewturnsover.forms import are_values
from fewturnsover.machines import living_edges
from fewturnsover.programs import is_point


def common_boxes(program):
    """Tell the boxes of the common state: the common ones, and one for each hand, that was begun or not."""
    boxes, hands = program
    return boxes + (("", 2),) * len(hands)


def is_control(program, hand, thing):
    """Tell of a tuple whether it is a control of a hand: one in which the hand is begun."""
    if not are_values(thing, common_boxes(program) + program[1][hand][1]):
        return False
    return thing[len(program[0]) + hand] == 1


def has_points_of(program, hand, machine, far):
    """Tell whether the points of all edges to states from which an end can be come to are the hand's."""
    texts = program[1][hand][2]
    points = {point: True for state, point, other in living_edges(machine, far)}
    return all([is_point(texts, point) for point in points])


def is_of_turn(program, hand, machine, far):
    """Tell whether a machine is one of a hand's turn; of states from which nothing is read nothing is asked."""
    controls = {control: True for control, state in machine[0] if state in far}
    if not all([is_control(program, hand, control) for control in controls]):
        return False
    return has_points_of(program, hand, machine, far)


def is_of_own(program, hand, machine, far):
    """Tell likewise whether a machine's controls are values of a hand's own boxes, and its points the hand's."""
    controls = {control: True for control, state in machine[0] if state in far}
    if not all([are_values(control, program[1][hand][1]) for control in controls]):
        return False
    return has_points_of(program, hand, machine, far)
