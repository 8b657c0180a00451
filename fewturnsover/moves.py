"""What a row does: the moves of one hand at one point.

A move is a tuple (choice, control, points): the control behind it, and the points
that lie on the hand's pile then in the stead of its first one.
"""

from fewturnsover.programs import row_of


def next_point(point):
    """Tell the point of the next row."""
    return (point[0], point[1] + 1)


def put(control, place, value):
    """Tell the control with another value at a place."""
    return control[:place] + (value,) + control[place + 1:]


def moves_of_set(layout, hand, control, point, row):
    """Tell the moves of a row `set`."""
    places = layout.places[hand]
    place = places[row[1]]
    size = layout.size_at(hand, place)
    source = row[2]
    onward = (next_point(point),)
    if source[0] == "any":
        return [(value, put(control, place, value), onward) for value in range(size)]
    if source[0] == "to":
        value = source[1]
    elif source[0] == "of":
        value = control[places[source[1]]]
    else:
        value = (control[place] + source[1]) % size
    return [(None, put(control, place, value), onward)]


def has_value(layout, hand, control, row):
    """Tell whether the box that a row `if` or `wait` asks has the row's value."""
    return control[layout.places[hand][row[1]]] == row[2]


def moves_of_if(layout, hand, control, point, row):
    """Tell the moves of a row `if`."""
    if has_value(layout, hand, control, row):
        return [(None, control, ((point[0], row[3]),))]
    return [(None, control, (next_point(point),))]


def moves_of_go(layout, hand, control, point, row):
    """Tell the moves of a row `go`."""
    return [(way, control, ((point[0], way),)) for way in row[1]]


def moves_of_call(layout, hand, control, point, row):
    """Tell the moves of a row `call`."""
    return [(None, control, ((layout.text_numbers[hand][row[1]], 0), next_point(point)))]


def moves_of_back(layout, hand, control, point, row):
    """Tell the moves of a row `back`."""
    return [(None, control, ())]


def moves_of_wait(layout, hand, control, point, row):
    """Tell the moves of a row `wait`."""
    if has_value(layout, hand, control, row):
        return [(None, control, (next_point(point),))]
    return []


def moves_of_begin(layout, hand, control, point, row):
    """Tell the moves of a row `begin`."""
    place = layout.begun_from + layout.hand_numbers[row[1]]
    return [(None, put(control, place, 1), (next_point(point),))]


def moves_of_fault(layout, hand, control, point, row):
    """Tell the moves of a row `fault`."""
    return []


MOVES = {
    "set": moves_of_set,
    "if": moves_of_if,
    "go": moves_of_go,
    "call": moves_of_call,
    "back": moves_of_back,
    "wait": moves_of_wait,
    "begin": moves_of_begin,
    "fault": moves_of_fault,
}


def moves_of(layout, hand, control, point):
    """Tell the moves of a hand at a point, in the order of its steps."""
    row = row_of(layout.texts[hand], point)
    action = MOVES[row[0]]
    return action(layout, hand, control, point, row)


def is_fault(layout, hand, point):
    """Tell whether the row at a point of a hand is a fault."""
    return row_of(layout.texts[hand], point)[0] == "fault"
