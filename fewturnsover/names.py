"""What a whole number is, and what a name is."""

LETTERS = "abcdefghijklmnopqrstuvwxyz"
LONGEST_NAME = 8


def is_whole(thing):
    """Tell of anything whether it is a whole number."""
    return isinstance(thing, int) and not isinstance(thing, bool)


def is_name(thing):
    """Tell of anything whether it is a name."""
    if not isinstance(thing, str) or not 1 <= len(thing) <= LONGEST_NAME:
        return False
    return all([sign in LETTERS for sign in thing])
