"""What a whole number is, and what a name is."""

LONGEST_NAME = 8


def is_whole(thing):
    """Tell of anything whether it is a whole number."""
    return isinstance(thing, int) and not isinstance(thing, bool)


def is_name(thing):
    """Tell of anything whether it is a name."""
    if not isinstance(thing, str) or len(thing) > LONGEST_NAME:
        return False
    # Letters that are all small and all of the plain alphabet: the empty text is none of them.
    return thing.isascii() and thing.isalpha() and thing.islower()
