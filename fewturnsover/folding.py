"""How many entries are looked at for the fewest turns to a fault, like hands looked at once or each by itself."""

from fewturnsover.backward import legs_of
from fewturnsover.entries import entries_of
from fewturnsover.errors import NoLimit
from fewturnsover.layout import layout_of
from fewturnsover.machines import is_from_nought
from fewturnsover.programs import like_hands


def looked_at(program, most, *, folded=True):
    """Tell (turns or None, how many entries were looked at)."""
    layout = layout_of(program)
    if not is_from_nought(most):
        raise NoLimit()
    lots = like_hands(program) if folded else []
    entries = entries_of(layout, (most, (None,) * len(program[1])), lots)
    turns = len(legs_of(entries)) if entries.has_fault() else None
    return turns, len(entries.heads)
