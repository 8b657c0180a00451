"""Limits: how many turns may be, and how many each hand may have."""

from fewturnsover.errors import NoHand, NoLimit
from fewturnsover.forms import is_tuple
from fewturnsover.machines import is_from_nought
from fewturnsover.programs import is_hand, look_at_program
from fewturnsover.runs import put_together


def is_number(thing):
    """Tell of anything whether it is a number of turns, or None: however many."""
    return thing is None or is_from_nought(thing)


def is_limit_of(program, thing):
    """Tell of anything whether it is a limit of what was found to be a program."""
    many = len(program[1])
    if not is_tuple(thing, 2, 2) or not is_number(thing[0]) or not is_tuple(thing[1], many, many):
        return False
    return all([is_number(number) for number in thing[1]])


def is_limit(program, thing):
    """Tell of anything whether it is a limit of the program."""
    look_at_program(program)
    return is_limit_of(program, thing)


def limit_of(program, many, *, each=None):
    """Tell the limit of so many turns, each hand having so many of its own at most."""
    look_at_program(program)
    if not is_number(many) or not is_number(each):
        raise NoLimit()
    return many, (each,) * len(program[1])


def one_less(number):
    """Tell a number of turns less one, never below 0; None stays."""
    return None if number is None else max(0, number - 1)


def less(limit, hand):
    """Tell a limit less a hand's turn."""
    most, each = limit
    if not is_hand(each, hand):
        raise NoHand(hand)
    return one_less(most), each[:hand] + (one_less(each[hand]),) + each[hand + 1:]


def is_no_less(one, other):
    """Tell whether a number of turns is None or no less than another one that isn't None."""
    return one is None or other is not None and one >= other


def covers(one, other):
    """Tell whether one limit covers the other."""
    if not is_no_less(one[0], other[0]):
        return False
    return all([is_no_less(number, against) for number, against in zip(one[1], other[1])])


def is_within(limit, run):
    """Tell whether a run is within a limit."""
    turns = put_together(run)
    counts = [len([turn for turn in turns if turn[0] == hand]) for hand in range(len(limit[1]))]
    return covers(limit, (len(turns), tuple(counts)))


def may_go(limit, hand):
    """Tell whether a hand may have a turn by a limit."""
    return limit[0] != 0 and limit[1][hand] != 0
