"""Orders of turns, and which turns of one can matter to whether a fault is come to."""

from fewturnsover.errors import NoOrder
from fewturnsover.forms import is_tuple
from fewturnsover.moves import number_of
from fewturnsover.programs import all_begun, is_hand, numbers_from_first, row_of

MOST_TURNS = 6


def look_at_order(program, thing):
    """Refuse anything that is no order of turns of the program."""
    if not is_tuple(thing, 1, MOST_TURNS) or not all([is_hand(program[1], hand) for hand in thing]):
        raise NoOrder()


def stands_at_fault(hand):
    """Tell whether a hand faults as soon as it is begun."""
    return row_of(hand[2], (0, 0))[0] == "fault"


def faults_at_first(hands):
    """Tell whether one of the hands that are there from the first faults at once."""
    return any([stands_at_fault(hands[number]) for number in numbers_from_first(hands)])


def begins_fault(hands, name):
    """Tell whether to begin the hand of this name is a fault."""
    return stands_at_fault(hands[number_of(hands, name)])


def can_fault(hands, number):
    """Tell whether a hand has a row that is a fault, or that begins a hand that faults at once."""
    words = [row[0] for text in hands[number][2] for row in text[1]]
    return "fault" in words or any([begins_fault(hands, name) for name in all_begun((hands[number],))])


def turns_that_matter(hands, order):
    """Tell an order as a list without the turns of hands that can't have been begun there, nor those at the end
    of hands that can't fault, one hand's turns one behind the other made one."""
    there = numbers_from_first(hands)
    turns = []
    for hand in order:
        if hand in there:
            there = there + [number_of(hands, name) for name in all_begun((hands[hand],))]
            if turns[-1:] != [hand]:
                turns.append(hand)
    while turns and not can_fault(hands, turns[-1]):
        turns.pop()
    return turns
