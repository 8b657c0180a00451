"""What a program is, and what is told of one."""

from fewturnsover.errors import NoHand, NoPoint, NoProgram
from fewturnsover.forms import is_between, is_tuple
from fewturnsover.names import LONGEST_NAME
from fewturnsover.rows import are_rows

MOST_COMMON = 8
GREATEST_COMMON = 4
MOST_OWN = 24
GREATEST_OWN = 8
MOST_HANDS = 4
MOST_TEXTS = 32
MOST_ROWS = 2000
ROW_BEHIND_ALL = ("back",)


def are_boxes(thing, most, greatest, sizes):
    """Tell of anything whether it is boxes, none of a name in sizes; put them into sizes."""
    if not isinstance(thing, tuple) or len(thing) > most:
        return False
    for box in thing:
        if not isinstance(box, tuple) or len(box) != 2:
            return False
        name, size = box
        # What is_name and is_whole ask is asked in place here: each ask looks at all boxes anew.
        if not isinstance(name, str) or name in sizes or len(name) > LONGEST_NAME:
            return False
        if not name.isascii() or not name.isalpha() or not name.islower():
            return False
        if not isinstance(size, int) or not 1 <= size <= greatest or size is True:
            return False
        sizes[name] = size
    return True


def scopes_of(common, hands):
    """Tell what the rows of each hand may name; refuse the first hand that is none by itself or by a text."""
    scopes = {}
    for hand in hands:
        if not isinstance(hand, tuple) or len(hand) != 3:
            raise NoProgram(len(scopes), None, None)
        name, own, thing = hand
        if not isinstance(name, str) or name in scopes or len(name) > LONGEST_NAME or not isinstance(thing, tuple):
            raise NoProgram(len(scopes), None, None)
        if not name.isascii() or not name.isalpha() or not name.islower() or not 1 <= len(thing) <= MOST_TEXTS:
            raise NoProgram(len(scopes), None, None)
        sizes = common.copy()
        if not are_boxes(own, MOST_OWN, GREATEST_OWN, sizes):
            raise NoProgram(len(scopes), None, None)
        texts = {}
        for text in thing:
            if not isinstance(text, tuple) or len(text) != 2:
                raise NoProgram(len(scopes), len(texts), None)
            title, rows = text
            if not isinstance(title, str) or title in texts or len(title) > LONGEST_NAME:
                raise NoProgram(len(scopes), len(texts), None)
            if not title.isascii() or not title.isalpha() or not title.islower():
                raise NoProgram(len(scopes), len(texts), None)
            if not isinstance(rows, tuple) or not 1 <= len(rows) <= MOST_ROWS:
                raise NoProgram(len(scopes), len(texts), None)
            texts[title] = rows
        scopes[name] = (sizes, texts)
    return scopes


def are_all_rows(scopes):
    """Tell whether all rows of all hands are rows."""
    try:
        for name, (sizes, texts) in scopes.items():
            for rows in texts.values():
                if not are_rows(rows, len(rows), sizes, texts, scopes, name):
                    return False
    except KeyError:
        return False
    return True


def is_row_of(scopes, name, end, row):
    """Tell of anything whether it is a row of the hand of this name, in a text of so many rows."""
    sizes, texts = scopes[name]
    try:
        return are_rows((row,), end, sizes, texts, scopes, name)
    except KeyError:
        return False


def refuse_first_wrong(scopes):
    """Refuse the first row that is none."""
    for hand, name in enumerate(scopes):
        for text, rows in enumerate(scopes[name][1].values()):
            for at, row in enumerate(rows):
                if not is_row_of(scopes, name, len(rows), row):
                    raise NoProgram(hand, text, at)


def look_at_program(thing):
    """Tell None of a program; refuse anything else."""
    if not isinstance(thing, tuple) or len(thing) != 2:
        raise NoProgram(None, None, None)
    boxes, hands = thing
    common = {}
    if not isinstance(hands, tuple) or not 1 <= len(hands) <= MOST_HANDS:
        raise NoProgram(None, None, None)
    if not are_boxes(boxes, MOST_COMMON, GREATEST_COMMON, common):
        raise NoProgram(None, None, None)
    scopes = scopes_of(common, hands)
    if not are_all_rows(scopes):
        refuse_first_wrong(scopes)


def is_hand(hands, thing):
    """Tell of anything whether it is the number of one of the hands."""
    return is_between(thing, 0, len(hands) - 1)


def look_at_hand(program, thing):
    """Refuse anything that is no number of a hand of the program."""
    # What is_hand asks is asked in place: this is done at each ask about a hand.
    if not isinstance(thing, int) or not 0 <= thing < len(program[1]) or thing is True or thing is False:
        raise NoHand(thing)


def is_point(texts, thing):
    """Tell of anything whether it is a point of a hand with these texts."""
    if not is_tuple(thing, 2, 2) or not is_between(thing[0], 0, len(texts) - 1):
        return False
    return is_between(thing[1], 0, len(texts[thing[0]][1]))


def row_of(texts, point):
    """Tell the row at a point of a hand with these texts."""
    text, at = point
    rows = texts[text][1]
    return rows[at] if at < len(rows) else ROW_BEHIND_ALL


def all_begun(hands):
    """Tell the names of the hands that rows of any of the hands begin, some perhaps often."""
    return [row[1] for hand in hands for text in hand[2] for row in text[1] if row[0] == "begin"]


def numbers_from_first(hands):
    """Tell the numbers of the hands that no row begins."""
    begun = all_begun(hands)
    return [number for number, hand in enumerate(hands) if hand[0] not in begun]


def hands_of(program):
    """Tell the names of the hands."""
    look_at_program(program)
    return [hand[0] for hand in program[1]]


def first_hands(program):
    """Tell the numbers of the hands that are there from the first, rising."""
    look_at_program(program)
    return numbers_from_first(program[1])


def like_hands(program):
    """Tell the lots of like hands, by their least ones."""
    look_at_program(program)
    hands = program[1]
    # A hand that begins one or is begun is like none, not even one of the same texts.
    free = [number for number in numbers_from_first(hands) if not all_begun((hands[number],))]
    lots = []
    for number, hand in enumerate(hands):
        lot = [number]
        if number in free:
            lot = [other for other in free if hands[other][1:] == hand[1:]]
        if lot[0] == number:
            lots.append(lot)
    return lots


def row_at(program, hand, point):
    """Tell the row at a point of a hand."""
    look_at_program(program)
    look_at_hand(program, hand)
    texts = program[1][hand][2]
    if not is_point(texts, point):
        raise NoPoint(point)
    return row_of(texts, point)
