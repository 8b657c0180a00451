"""Of a program and a limit: a run that faults, of as few turns as can be, or a book in which no fault stands."""

from fewturnsover.backward import run_to_fault
from fewturnsover.entries import entries_of
from fewturnsover.errors import NoLimit
from fewturnsover.layout import layout_of
from fewturnsover.limits import is_limit_of
from fewturnsover.machines import is_from_nought


def told_by(layout, limit):
    """Tell what told tells, of a limit whose all isn't None."""
    entries = entries_of(layout, limit)
    return ("run", run_to_fault(layout, entries)) if entries.has_fault() else ("book", entries.book())


def told(program, limit):
    """Tell (`run`, run) or (`book`, book)."""
    layout = layout_of(program)
    if not is_limit_of(program, limit) or limit[0] is None:
        raise NoLimit()
    return told_by(layout, limit)


def least_turns(program, most):
    """Tell (turns, run) of the fewest turns, up to a number, by which a fault is come to, or None."""
    layout = layout_of(program)
    if not is_from_nought(most):
        raise NoLimit()
    kind, found = told_by(layout, (most, (None,) * len(program[1])))
    return (len(found), found) if kind == "run" else None
