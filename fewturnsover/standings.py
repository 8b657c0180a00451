"""Stands as walkers and runs go on by them, with piles of any depth.

A standing is a stand whose piles are chains: (first point, chain of the others), or None
of a hand that is over. So a step costs the same however deep the pile is.
"""

from fewturnsover.names import is_whole

FIRST_PILE = ((0, 0),)
FIRST_CHAIN = ((0, 0), None)


def chain_of(points, chain):
    """Tell the chain with the points ahead of it."""
    for point in reversed(points):
        chain = (point, chain)
    return chain


def pile_of(chain):
    """Tell the points of a chain as a tuple."""
    points = []
    while chain is not None:
        point, chain = chain
        points.append(point)
    return tuple(points)


def stand_of(standing):
    """Tell a standing with tuples for its chains."""
    common, hands = standing
    return common, tuple([None if at is None else (at[0], pile_of(at[1])) for at in hands])


def with_begun(program, common, places, pile):
    """Tell where the hands are, those that are begun by the common state being begun, with this pile at first."""
    if None not in places:
        return places
    boxes, hands = program
    told = []
    for hand, begun, at in zip(hands, common[len(boxes):], places):
        told.append(((0,) * len(hand[1]), pile) if at is None and begun == 1 else at)
    return tuple(told)


def first_standing(layout):
    """Tell the standing at first."""
    common = layout.first_common()
    return common, with_begun(layout.whole, common, (None,) * len(layout.texts), FIRST_CHAIN)


def has_point(at):
    """Tell whether a hand, by where it is, was begun and isn't over."""
    return at is not None and at[1] is not None


def steps_from(layout, standing, hand):
    """Tell the steps of a hand at a standing: a list of tuples (choice, standing)."""
    common, places = standing
    if not has_point(places[hand]):
        return []
    own, (point, chain) = places[hand]
    many = len(common)
    told = []
    for choice, control, points in layout.moves(hand, common + own, point):
        at = (control[many:], chain_of(points, chain))
        behind = with_begun(layout.whole, control, places[:hand] + (at,) + places[hand + 1:], FIRST_CHAIN)
        told.append((choice, (control[:many], behind)))
    return told


def is_choice(choice, thing):
    """Tell of anything whether it is this choice of a step."""
    if choice is None:
        return thing is None
    return is_whole(thing) and thing == choice


def stepped(layout, standing, hand, thing):
    """Tell the standing behind a hand's step by anything as the choice; None where it is none."""
    for choice, behind in steps_from(layout, standing, hand):
        if is_choice(choice, thing):
            return behind
    return None


def least_faulty(layout, standing):
    """Tell the least hand that faults at a standing, or None."""
    for number, at in enumerate(standing[1]):
        if has_point(at) and layout.is_fault(number, at[1][0]):
            return number
    return None
