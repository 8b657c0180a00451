"""Questions about the form of anything, which the other files share."""

from fewturnsover.names import is_whole


def is_between(thing, low, high):
    """Tell of anything whether it is a whole number from low to high."""
    return is_whole(thing) and low <= thing <= high


def is_tuple(thing, fewest, most):
    """Tell of anything whether it is a tuple of so many items."""
    return isinstance(thing, tuple) and fewest <= len(thing) <= most


def is_rising(things):
    """Tell whether each item is greater than the one ahead of it."""
    return all([things[at - 1] < things[at] for at in range(1, len(things))])


def are_values(thing, boxes):
    """Tell of anything whether it is a tuple with a value of each of the boxes."""
    if not isinstance(thing, tuple) or len(thing) != len(boxes):
        return False
    for value, box in zip(thing, boxes):
        # What is_between asks is asked in place: stands are looked at often.
        if not isinstance(value, int) or not 0 <= value < box[1] or value is True or value is False:
            return False
    return True
