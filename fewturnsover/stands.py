"""What a stand is, and a hand's steps at one.

Each ask is about one stand, so only what it needs of the program is looked up.
"""

from fewturnsover.errors import NoStand
from fewturnsover.forms import are_values
from fewturnsover.moves import moves_of, numbered_row
from fewturnsover.programs import all_begun, look_at_hand, look_at_program, row_of
from fewturnsover.standings import FIRST_PILE, with_begun

DEEPEST = 100


def is_pile(texts, thing):
    """Tell of anything whether it is a pile of a stand, of a hand with these texts."""
    if not isinstance(thing, tuple) or len(thing) > DEEPEST:
        return False
    for point in thing:
        # What is_point asks is asked in place: piles are looked at often.
        if not isinstance(point, tuple) or len(point) != 2:
            return False
        text, row = point
        if not isinstance(text, int) or not isinstance(row, int):
            return False
        if text is True or text is False or row is True or row is False:
            return False
    # Deep piles have few points, each often: whether these are the hand's is asked once of each.
    for text, row in thing if len(thing) < 8 else sorted(set(thing)):
        if not 0 <= text < len(texts) or not 0 <= row <= len(texts[text][1]):
            return False
    return True


def is_stand_of(program, thing):
    """Tell of anything whether it is a stand of what was found to be a program."""
    if not isinstance(thing, tuple) or len(thing) != 2:
        return False
    boxes, hands = program
    common, places = thing
    if not isinstance(common, tuple) or not isinstance(places, tuple) or len(places) != len(hands):
        return False
    many = len(boxes)
    if len(common) != many + len(hands):
        return False
    # What are_values asks is asked in place; there is a value for each box, then one for each hand.
    for box, value in zip(boxes, common):
        if not isinstance(value, int) or not 0 <= value < box[1] or value is True or value is False:
            return False
    for hand, begun, at in zip(hands, common[many:], places):
        if not isinstance(begun, int) or begun is True or begun is False:
            return False
        if begun == 0:
            if at is not None:
                return False
        elif begun != 1 or not isinstance(at, tuple) or len(at) != 2:
            return False
        elif not are_values(at[0], hand[1]) or not is_pile(hand[2], at[1]):
            return False
    return True


def look_at_stand(program, stand):
    """Refuse what is no program, then what is no stand of it."""
    look_at_program(program)
    if not is_stand_of(program, stand):
        raise NoStand()


def first_stand(program):
    """Tell the stand at first."""
    look_at_program(program)
    boxes, hands = program
    begun = all_begun(hands)
    places = [None if hand[0] in begun else ((0,) * len(hand[1]), FIRST_PILE) for hand in hands]
    return (0,) * len(boxes) + tuple([0 if at is None else 1 for at in places]), tuple(places)


def is_stand(program, thing):
    """Tell of anything whether it is a stand of the program."""
    look_at_program(program)
    return is_stand_of(program, thing)


def steps(program, stand, hand):
    """Tell the steps of a hand at a stand: a list of tuples (choice, stand)."""
    look_at_stand(program, stand)
    look_at_hand(program, hand)
    common, places = stand
    if places[hand] is None or not places[hand][1]:
        return []
    own, pile = places[hand]
    row = numbered_row(program, hand, row_of(program[1][hand][2], pile[0]))
    many = len(common)
    told = []
    for choice, control, points in moves_of(row, common + own, pile[0]):
        behind = places[:hand] + ((control[many:], points + pile[1:]),) + places[hand + 1:]
        if row[0] == "begin":
            behind = with_begun(program, control, behind, FIRST_PILE)
        told.append((choice, (control[:many], behind)))
    return told


def fault_at(program, stand):
    """Tell the least hand that faults at a stand, or None."""
    look_at_stand(program, stand)
    for number, at in enumerate(stand[1]):
        if at is not None and at[1]:
            text, row = at[1][0]
            rows = program[1][number][2][text][1]
            if row < len(rows) and rows[row][0] == "fault":
                return number
    return None
