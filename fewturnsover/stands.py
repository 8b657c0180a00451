"""What a stand is, and a hand's steps at one."""

from fewturnsover.errors import NoStand
from fewturnsover.forms import are_values, is_tuple
from fewturnsover.layout import layout_of
from fewturnsover.programs import is_point, look_at_hand
from fewturnsover.standings import first_standing, least_faulty, stand_of, standing_of, steps_from

DEEPEST = 100


def is_where(layout, hand, begun, thing):
    """Tell of anything whether a hand, begun or not, can be there in a stand."""
    if begun == 0:
        return thing is None
    if not is_tuple(thing, 2, 2) or not are_values(thing[0], layout.own_sizes[hand]):
        return False
    pile = thing[1]
    return is_tuple(pile, 0, DEEPEST) and all([is_point(layout.texts[hand], point) for point in pile])


def is_stand_of(layout, thing):
    """Tell of anything whether it is a stand of the layout's program."""
    if not is_tuple(thing, 2, 2) or not are_values(thing[0], layout.common_sizes):
        return False
    common, hands = thing
    begun = common[layout.begun_from:]
    if not is_tuple(hands, len(begun), len(begun)):
        return False
    return all([is_where(layout, number, begun[number], at) for number, at in enumerate(hands)])


def layout_for(program, stand):
    """Tell the layout of the program; refuse what is no program, then what is no stand of it."""
    layout = layout_of(program)
    if not is_stand_of(layout, stand):
        raise NoStand()
    return layout


def first_stand(program):
    """Tell the stand at first."""
    return stand_of(first_standing(layout_of(program)))


def is_stand(program, thing):
    """Tell of anything whether it is a stand of the program."""
    return is_stand_of(layout_of(program), thing)


def steps(program, stand, hand):
    """Tell the steps of a hand at a stand: a list of tuples (choice, stand)."""
    layout = layout_for(program, stand)
    look_at_hand(program, hand)
    found = steps_from(layout, standing_of(stand), hand)
    return [(choice, stand_of(behind)) for choice, behind in found]


def fault_at(program, stand):
    """Tell the least hand that faults at a stand, or None."""
    layout = layout_for(program, stand)
    return least_faulty(layout, standing_of(stand))
