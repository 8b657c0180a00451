"""Of a program without an end of turns: a run that faults, a book in which no fault stands, or neither so far."""

from fewturnsover.backward import run_to_fault
from fewturnsover.entries import Entries
from fewturnsover.errors import NoLimit
from fewturnsover.layout import layout_of
from fewturnsover.machines import is_from_nought


def endless(program, *, rounds=4):
    """Tell (`run`, run), (`book`, book), or (`open`,) where behind so many rounds new entries come still."""
    layout = layout_of(program)
    if not is_from_nought(rounds):
        raise NoLimit()
    entries = Entries(layout, (None, (None,) * len(program[1])), ())
    gone = 0
    while gone < rounds and not entries.has_fault():
        if not entries.go_round() and not entries.has_fault():
            return "book", entries.book()
        gone += 1
    return ("run", run_to_fault(layout, entries)) if entries.has_fault() else ("open",)
