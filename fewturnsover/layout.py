"""A program as many steps need it: its rows numbered, each once."""

from fewturnsover.moves import moves_of, numbered_row
from fewturnsover.programs import look_at_program, numbers_from_first, row_of


class Layout:
    """What the steps of a program look up, made of what was found to be a program."""

    def __init__(self, program):
        boxes, hands = program
        self.whole = program
        self.begun_from = len(boxes)
        self.texts = [hand[2] for hand in hands]
        self.numbered = {}

    def numbered_at(self, hand, point):
        """Tell the numbered row at a point of a hand."""
        key = (hand, point)
        if key not in self.numbered:
            self.numbered[key] = numbered_row(self.whole, hand, row_of(self.texts[hand], point))
        return self.numbered[key]

    def moves(self, hand, control, point):
        """Tell the moves of a hand at a point."""
        return moves_of(self.numbered_at(hand, point), control, point)

    def is_fault(self, hand, point):
        """Tell whether the row at a point of a hand is a fault."""
        return row_of(self.texts[hand], point)[0] == "fault"

    def first_common(self):
        """Tell the common state at first."""
        hands = self.whole[1]
        there = numbers_from_first(hands)
        return (0,) * self.begun_from + tuple([1 if number in there else 0 for number in range(len(hands))])


def layout_of(thing):
    """Tell the layout of a program; refuse anything else."""
    look_at_program(thing)
    return Layout(thing)
