"""Questions about the form of anything, which the other files share."""

from fewturnsover.names import is_whole


def is_between(thing, low, high):
    """Tell of anything whether it is a whole number from low to high."""
    return is_whole(thing) and low <= thing <= high


def is_tuple(thing, fewest, most):
    """Tell of anything whether it is a tuple of so many items."""
    return isinstance(thing, tuple) and fewest <= len(thing) <= most


def is_rising(things):
    """Tell whether each item is greater than the one ahead of it."""
    return all([things[at - 1] < things[at] for at in range(1, len(things))])


def are_values(thing, sizes):
    """Tell of anything whether it is a tuple with a value below each of the sizes."""
    if not is_tuple(thing, len(sizes), len(sizes)):
        return False
    return all([is_between(value, 0, size - 1) for value, size in zip(thing, sizes)])
