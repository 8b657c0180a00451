"""Stands as walkers and runs go on by them, with piles of any depth.

A standing is a stand whose piles are chains: (first point, chain of the others), or None
of a hand that is over. So a step costs the same however deep the pile is.
"""

from fewturnsover.moves import is_fault, moves_of
from fewturnsover.names import is_whole


def chain_of(points, chain):
    """Tell the chain with the points ahead of it."""
    for point in reversed(points):
        chain = (point, chain)
    return chain


def pile_of(chain):
    """Tell the points of a chain as a tuple."""
    points = []
    while chain is not None:
        point, chain = chain
        points.append(point)
    return tuple(points)


def standing_of(stand):
    """Tell the standing of a stand."""
    common, hands = stand
    return common, tuple([None if at is None else (at[0], chain_of(at[1], None)) for at in hands])


def stand_of(standing):
    """Tell a standing with tuples for its chains."""
    common, hands = standing
    return common, tuple([None if at is None else (at[0], pile_of(at[1])) for at in hands])


def begun_hand(layout, hand):
    """Tell where a hand is that was begun just now."""
    return (0,) * len(layout.own_sizes[hand]), ((0, 0), None)


def with_begun(layout, common, hands):
    """Tell the standing in which all hands are that are begun by the common state."""
    begun = common[layout.begun_from:]
    told = list(hands)
    for number, at in enumerate(hands):
        if at is None and begun[number] == 1:
            told[number] = begun_hand(layout, number)
    return common, tuple(told)


def first_standing(layout):
    """Tell the standing at first."""
    many = len(layout.texts)
    begun = [1 if number in layout.from_first else 0 for number in range(many)]
    return with_begun(layout, (0,) * layout.begun_from + tuple(begun), (None,) * many)


def has_point(at):
    """Tell whether a hand, by where it is, was begun and isn't over."""
    return at is not None and at[1] is not None


def steps_from(layout, standing, hand):
    """Tell the steps of a hand at a standing: a list of tuples (choice, standing)."""
    common, hands = standing
    if not has_point(hands[hand]):
        return []
    own, (point, chain) = hands[hand]
    many = len(common)
    told = []
    for choice, control, points in moves_of(layout, hand, common + own, point):
        at = (control[many:], chain_of(points, chain))
        behind = with_begun(layout, control[:many], hands[:hand] + (at,) + hands[hand + 1:])
        told.append((choice, behind))
    return told


def is_choice(choice, thing):
    """Tell of anything whether it is this choice of a step."""
    if choice is None:
        return thing is None
    return is_whole(thing) and thing == choice


def stepped(layout, standing, hand, thing):
    """Tell the standing behind a hand's step by anything as the choice; None where it is none."""
    for choice, behind in steps_from(layout, standing, hand):
        if is_choice(choice, thing):
            return behind
    return None


def least_faulty(layout, standing):
    """Tell the least hand that faults at a standing, or None."""
    for number, at in enumerate(standing[1]):
        if has_point(at) and is_fault(layout, number, at[1][0]):
            return number
    return None
