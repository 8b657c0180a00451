"""A program as its steps need it: names made numbers, once for many steps."""

from fewturnsover.programs import look_at_program, numbers_from_first


def numbered(things):
    """Tell a dict from the names of boxes, texts or hands to their numbers."""
    return {thing[0]: number for number, thing in enumerate(things)}


def sizes_of(boxes):
    """Tell the sizes of boxes."""
    return tuple([box[1] for box in boxes])


class Layout:
    """What the steps of a program look up, made of what was found to be a program.

    A hand's control is the common state with the values of its own boxes behind it:
    `places` tells, hand by hand, where in it the box of a name is.
    """

    def __init__(self, program):
        boxes, hands = program
        own_from = len(boxes) + len(hands)
        self.begun_from = len(boxes)
        self.common_sizes = sizes_of(boxes) + (2,) * len(hands)
        self.own_sizes = [sizes_of(hand[1]) for hand in hands]
        self.places = []
        for hand in hands:
            places = numbered(boxes)
            for name, number in numbered(hand[1]).items():
                places[name] = own_from + number
            self.places.append(places)
        self.texts = [hand[2] for hand in hands]
        self.text_numbers = [numbered(hand[2]) for hand in hands]
        self.hand_numbers = numbered(hands)
        self.from_first = numbers_from_first(hands)

    def size_at(self, hand, place):
        """Tell the size of the box at a place of the hand's control."""
        many = len(self.common_sizes)
        return self.common_sizes[place] if place < many else self.own_sizes[hand][place - many]


def layout_of(thing):
    """Tell the layout of a program; refuse anything else."""
    look_at_program(thing)
    return Layout(thing)
