"""Machines that read controls and piles: tuples (begins, edges, ends)."""

from fewturnsover.forms import is_rising, is_tuple
from fewturnsover.names import is_whole


def is_from_nought(thing):
    """Tell of anything whether it is a whole number from 0 on, as states are."""
    return is_whole(thing) and thing >= 0


def is_control_with_state(thing):
    """Tell of anything whether it is a control with a state."""
    if not is_tuple(thing, 2, 2) or not isinstance(thing[0], tuple):
        return False
    return all([is_whole(number) for number in thing[0]]) and is_from_nought(thing[1])


def is_edge(thing):
    """Tell of anything whether it is an edge."""
    if not is_tuple(thing, 3, 3) or not is_tuple(thing[1], 2, 2):
        return False
    return all([is_from_nought(number) for number in (thing[0],) + thing[1] + (thing[2],)])


def are_rising(thing, check):
    """Tell of anything whether it is a rising tuple of what the check lets by."""
    return isinstance(thing, tuple) and all([check(item) for item in thing]) and is_rising(thing)


def is_machine(thing):
    """Tell of anything whether it is a machine."""
    if not is_tuple(thing, 3, 3):
        return False
    begins, edges, ends = thing
    return are_rising(begins, is_control_with_state) and are_rising(edges, is_edge) and are_rising(ends, is_from_nought)


def states_of(machine, control):
    """Tell the states of a control."""
    return [state for known, state in machine[0] if known == control]


def edges_ahead(machine):
    """Tell a dict from states to lists of (point, state) of the edges that go from them."""
    ahead = {}
    for state, point, other in machine[1]:
        ahead.setdefault(state, []).append((point, other))
    return ahead


def edges_behind(machine):
    """Tell a dict from states to lists of the states from which edges lead to them."""
    behind = {}
    for state, point, other in machine[1]:
        behind.setdefault(other, []).append(state)
    return behind


def far_from_end(machine):
    """Tell a dict from states to the fewest points to an end, of those from which one can be come to."""
    behind = edges_behind(machine)
    far = {state: 0 for state in machine[2]}
    queue = list(machine[2])
    at = 0
    while at < len(queue):
        nearer = queue[at]
        for state in behind.get(nearer, []):
            if state not in far:
                far[state] = far[nearer] + 1
                queue.append(state)
        at += 1
    return far


def living_edges(machine, far):
    """Tell the edges to states from which an end can be come to, those in far."""
    return [edge for edge in machine[1] if edge[2] in far]


def by_points(edges):
    """Tell a dict from states to dicts from points to lists of the states to which edges lead by them."""
    found = {}
    for state, point, other in edges:
        found.setdefault(state, {}).setdefault(point, []).append(other)
    return found


def states_by_control(machine, far):
    """Tell a dict from controls, rising, to lists of their states from which an end can be come to, those in far."""
    found = {}
    for control, state in machine[0]:
        if state in far:
            found.setdefault(control, []).append(state)
    return found


def reads(machine, control, pile):
    """Tell whether a machine reads a control and a pile."""
    ahead = edges_ahead(machine)
    states = {state: True for state in states_of(machine, control)}
    for point in pile:
        edges = [edge for state in states for edge in ahead.get(state, [])]
        states = {edge[1]: True for edge in edges if edge[0] == point}
    return any([state in states for state in machine[2]])


def controls_of(machine):
    """Tell the controls of which a machine reads some pile, rising."""
    far = far_from_end(machine)
    return sorted({control for control, state in machine[0] if state in far})


def least_pile(machine, control):
    """Tell the least pile that a machine reads of a control, or None."""
    far = far_from_end(machine)
    states = [state for state in states_of(machine, control) if state in far]
    if not states:
        return None
    left = min([far[state] for state in states])
    states = [state for state in states if far[state] == left]
    ahead = edges_ahead(machine)
    pile = []
    while left > 0:
        left -= 1
        # All states are equally far, so only edges that come nearer lead to a least pile.
        found = [edge for state in states for edge in ahead[state] if far.get(edge[1]) == left]
        point = min([edge[0] for edge in found])
        pile.append(point)
        states = list({edge[1]: True for edge in found if edge[0] == point})
    return tuple(pile)
