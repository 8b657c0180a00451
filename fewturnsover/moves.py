"""What a row does: the moves of one hand at one point.

A hand's control is the common state with the values of its own boxes behind it. A numbered row is a row whose
names are made numbers: boxes and hands are places in the control, texts their numbers. A move is a tuple
(choice, control, points): the control behind it, and the points that lie on the hand's pile then in the
stead of its first one.
"""


def number_of(things, name):
    """Tell the number of the box, text or hand of this name."""
    for number, thing in enumerate(things):
        if thing[0] == name:
            return number
    return None


def box_of(program, hand, name):
    """Tell the place of a box in a hand's control, and its size."""
    boxes, hands = program
    for place, box in enumerate(boxes):
        if box[0] == name:
            return place, box[1]
    own = hands[hand][1]
    number = number_of(own, name)
    return len(boxes) + len(hands) + number, own[number][1]


def numbered_row(program, hand, row):
    """Tell a hand's row as a numbered one; a row `set` as (`set`, place, size, word, number)."""
    word = row[0]
    if word == "set":
        place, size = box_of(program, hand, row[1])
        source = row[2]
        if source[0] == "any":
            return (word, place, size, "any", None)
        if source[0] == "of":
            return (word, place, size, "of", box_of(program, hand, source[1])[0])
        return (word, place, size) + source
    if word == "if" or word == "wait":
        return (word, box_of(program, hand, row[1])[0]) + row[2:]
    if word == "call":
        return (word, number_of(program[1][hand][2], row[1]))
    if word == "begin":
        return (word, len(program[0]) + number_of(program[1], row[1]))
    return row


def put(control, place, value):
    """Tell the control with another value at a place."""
    return control[:place] + (value,) + control[place + 1:]


def moves_of_set(row, control, point):
    """Tell the moves of a row `set`."""
    word, place, size, source, number = row
    onward = ((point[0], point[1] + 1),)
    if source == "any":
        return [(value, put(control, place, value), onward) for value in range(size)]
    if source == "to":
        value = number
    elif source == "of":
        value = control[number]
    else:
        value = (control[place] + number) % size
    return [(None, put(control, place, value), onward)]


def moves_of(row, control, point):
    """Tell the moves by a numbered row, in the order of a hand's steps."""
    word = row[0]
    text, at = point
    if word == "set":
        return moves_of_set(row, control, point)
    if word == "if":
        return [(None, control, ((text, row[3] if control[row[1]] == row[2] else at + 1),))]
    if word == "go":
        return [(way, control, ((text, way),)) for way in row[1]]
    if word == "call":
        return [(None, control, ((row[1], 0), (text, at + 1)))]
    if word == "back":
        return [(None, control, ())]
    if word == "wait":
        return [(None, control, ((text, at + 1),))] if control[row[1]] == row[2] else []
    if word == "begin":
        return [(None, put(control, row[1], 1), ((text, at + 1),))]
    return []
