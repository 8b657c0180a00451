"""Runs: lists of turns, tuples (hand, choices)."""

from fewturnsover.errors import NoRun
from fewturnsover.forms import is_tuple
from fewturnsover.layout import layout_of
from fewturnsover.programs import is_hand
from fewturnsover.standings import first_standing, least_faulty, stand_of, stepped


def is_turn(layout, thing):
    """Tell of anything whether it is a turn by its form and hand, whatever its choices are by themselves."""
    if not is_tuple(thing, 2, 2) or not is_hand(layout.texts, thing[0]):
        return False
    return isinstance(thing[1], list) and len(thing[1]) > 0


def behind_turn(layout, standing, number, turn):
    """Tell the standing behind the turn of this number; refuse its first choice that is none there."""
    hand, choices = turn
    for at, choice in enumerate(choices):
        standing = stepped(layout, standing, hand, choice)
        if standing is None:
            raise NoRun(number, at)
    return standing


def standings_of(layout, run):
    """Tell the standing at first and that behind each turn; refuse anything that is no run."""
    if not isinstance(run, list):
        raise NoRun(None, None)
    found = [first_standing(layout)]
    for number, turn in enumerate(run):
        if not is_turn(layout, turn):
            raise NoRun(number, None)
        found.append(behind_turn(layout, found[-1], number, turn))
    return found


def stands_of(program, run):
    """Tell the stand at first and that behind each turn of a run."""
    return [stand_of(standing) for standing in standings_of(layout_of(program), run)]


def is_faulty(program, thing):
    """Tell of anything whether it is a run that faults."""
    layout = layout_of(program)
    try:
        found = standings_of(layout, thing)
    except NoRun:
        return False
    return least_faulty(layout, found[-1]) is not None


def put_together(run):
    """Tell the run of the same steps with one hand's turns one behind the other made one."""
    turns = []
    for hand, choices in run:
        if turns and turns[-1][0] == hand:
            turns[-1][1].extend(choices)
        else:
            turns.append((hand, list(choices)))
    return turns
