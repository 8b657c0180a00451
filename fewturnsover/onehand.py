"""A program of one hand, made of a program and an order of turns, that faults just where by these turns one does."""

from fewturnsover.errors import NoRun
from fewturnsover.layout import layout_of
from fewturnsover.making import Making
from fewturnsover.orders import look_at_order
from fewturnsover.programs import look_at_program
from fewturnsover.runs import standings_of
from fewturnsover.standings import first_standing, least_faulty, stepped


def making_of(program, order):
    """Tell how a program of one hand is made; refuse what is no program, then what is no order."""
    look_at_program(program)
    look_at_order(program, order)
    return Making(program, order)


def one_hand(program, order):
    """Tell the program of one hand made of a program and an order."""
    return making_of(program, order).whole


def choices_by_turns(making, layout, run):
    """Tell a dict from numbers of turns to lists of choices, of a run that faults, none behind the turn that does."""
    standing = first_standing(layout)
    found = {at: [] for at in range(len(making.plan.order))}
    for turn in run:
        for choice in turn[1]:
            step = making.step_at(standing, choice)
            if step is not None:
                found[step[0]].append(step[1])
            standing = stepped(layout, standing, 0, choice)
    last = making.turn_at(standing)
    return {at: choices for at, choices in found.items() if at <= last}


def led_back(program, order, run):
    """Tell the run of the first program to which one of the made program that faults is led back."""
    making = making_of(program, order)
    layout = layout_of(making.whole)
    if least_faulty(layout, standings_of(layout, run)[-1]) is None:
        raise NoRun(None, None)
    if making.plan is None:
        return []
    found = choices_by_turns(making, layout, run)
    return [(making.plan.order[at], choices) for at, choices in found.items() if choices]
