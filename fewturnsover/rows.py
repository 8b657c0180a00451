"""What a row of a text is."""

from fewturnsover.forms import is_between, is_rising, is_tuple

MOST_ON = 3
MOST_WAYS = 4


class Scope:
    """What a row may name: boxes with their sizes, texts, other hands, and the row behind the last one."""

    def __init__(self, sizes, texts, others, end):
        self.sizes = sizes
        self.texts = texts
        self.others = others
        self.end = end


def is_box(scope, thing):
    """Tell of anything whether it is a box that the row may name."""
    # Only a text is looked up: other things may not be fit to be keys.
    return isinstance(thing, str) and thing in scope.sizes


def is_value(scope, box, thing):
    """Tell of anything whether it is a value of the box."""
    return is_between(thing, 0, scope.sizes[box] - 1)


def is_number_of_row(scope, thing):
    """Tell of anything whether it is the number of a row that can be gone to."""
    return is_between(thing, 0, scope.end)


def is_to(scope, box, source):
    """Tell whether (`to`, value) is a source for the box."""
    return len(source) == 2 and is_value(scope, box, source[1])


def is_of(scope, box, source):
    """Tell whether (`of`, other) is a source for the box."""
    if len(source) != 2 or not is_box(scope, source[1]):
        return False
    other = source[1]
    return other != box and scope.sizes[other] <= scope.sizes[box]


def is_on(scope, box, source):
    """Tell whether (`on`, many) is a source for the box."""
    return len(source) == 2 and is_between(source[1], 1, MOST_ON)


def is_any(scope, box, source):
    """Tell whether (`any`,) is a source for the box."""
    return len(source) == 1


SOURCES = {"to": is_to, "of": is_of, "on": is_on, "any": is_any}


def first_word(thing):
    """Tell of anything the text that it has first, where it is a tuple; else the empty text."""
    if isinstance(thing, tuple) and thing and isinstance(thing[0], str):
        return thing[0]
    return ""


def is_set(scope, row):
    """Tell whether a row that begins with `set` is one."""
    if len(row) != 3 or not is_box(scope, row[1]):
        return False
    check = SOURCES.get(first_word(row[2]))
    return check is not None and check(scope, row[1], row[2])


def is_if(scope, row):
    """Tell whether a row that begins with `if` is one."""
    if len(row) != 4 or not is_box(scope, row[1]):
        return False
    return is_value(scope, row[1], row[2]) and is_number_of_row(scope, row[3])


def is_go(scope, row):
    """Tell whether a row that begins with `go` is one."""
    if len(row) != 2 or not is_tuple(row[1], 1, MOST_WAYS):
        return False
    return all([is_number_of_row(scope, way) for way in row[1]]) and is_rising(row[1])


def is_call(scope, row):
    """Tell whether a row that begins with `call` is one."""
    return len(row) == 2 and isinstance(row[1], str) and row[1] in scope.texts


def is_wait(scope, row):
    """Tell whether a row that begins with `wait` is one."""
    return len(row) == 3 and is_box(scope, row[1]) and is_value(scope, row[1], row[2])


def is_begin(scope, row):
    """Tell whether a row that begins with `begin` is one."""
    return len(row) == 2 and isinstance(row[1], str) and row[1] in scope.others


def is_alone(scope, row):
    """Tell whether a row whose word says all has nothing behind it."""
    return len(row) == 1


ROWS = {
    "set": is_set,
    "if": is_if,
    "go": is_go,
    "call": is_call,
    "back": is_alone,
    "wait": is_wait,
    "begin": is_begin,
    "fault": is_alone,
}


def is_row(scope, thing):
    """Tell of anything whether it is a row."""
    check = ROWS.get(first_word(thing))
    return check is not None and check(scope, thing)
