"""What a program is, and what is told of one."""

from fewturnsover.errors import NoHand, NoPoint, NoProgram
from fewturnsover.forms import is_between, is_tuple
from fewturnsover.names import is_name
from fewturnsover.rows import Scope, is_row

MOST_COMMON = 8
GREATEST_COMMON = 4
MOST_OWN = 24
GREATEST_OWN = 8
MOST_HANDS = 4
MOST_TEXTS = 32
MOST_ROWS = 2000
ROW_BEHIND_ALL = ("back",)


def is_sized(thing, greatest):
    """Tell of anything whether it is a name with a size."""
    return is_tuple(thing, 2, 2) and is_name(thing[0]) and is_between(thing[1], 1, greatest)


def are_boxes(thing, most, greatest, taken):
    """Tell of anything whether it is boxes, none of a name that is taken."""
    if not is_tuple(thing, 0, most) or not all([is_sized(box, greatest) for box in thing]):
        return False
    names = taken + [box[0] for box in thing]
    return len(names) == len(set(names))


def is_hand_in_whole(thing, common):
    """Tell of anything whether it is a hand, whatever its texts are by themselves."""
    if not is_tuple(thing, 3, 3) or not is_name(thing[0]):
        return False
    return are_boxes(thing[1], MOST_OWN, GREATEST_OWN, common) and is_tuple(thing[2], 1, MOST_TEXTS)


def is_text_in_whole(thing):
    """Tell of anything whether it is a text, whatever its rows are by themselves."""
    return is_tuple(thing, 2, 2) and is_name(thing[0]) and is_tuple(thing[1], 1, MOST_ROWS)


def look_at_texts(hand, texts):
    """Refuse the first text of the hand that is none by its form or name."""
    names = []
    for number, text in enumerate(texts):
        if not is_text_in_whole(text) or text[0] in names:
            raise NoProgram(hand, number, None)
        names.append(text[0])


def look_at_hands(common, hands):
    """Refuse the first hand that is none by itself or by a text's form or name."""
    names = []
    for number, hand in enumerate(hands):
        if not is_hand_in_whole(hand, common) or hand[0] in names:
            raise NoProgram(number, None, None)
        names.append(hand[0])
        look_at_texts(number, hand[2])


def look_at_rows(boxes, hands):
    """Refuse the first row that is none, all hands and texts having forms and names."""
    for number, hand in enumerate(hands):
        sizes = {box[0]: box[1] for box in boxes + hand[1]}
        texts = [text[0] for text in hand[2]]
        others = [other[0] for other in hands if other[0] != hand[0]]
        for place, text in enumerate(hand[2]):
            scope = Scope(sizes, texts, others, len(text[1]))
            for at, row in enumerate(text[1]):
                if not is_row(scope, row):
                    raise NoProgram(number, place, at)


def look_at_program(thing):
    """Tell None of a program; refuse anything else."""
    if not is_tuple(thing, 2, 2) or not is_tuple(thing[1], 1, MOST_HANDS):
        raise NoProgram(None, None, None)
    boxes, hands = thing
    if not are_boxes(boxes, MOST_COMMON, GREATEST_COMMON, []):
        raise NoProgram(None, None, None)
    look_at_hands([box[0] for box in boxes], hands)
    look_at_rows(boxes, hands)


def is_hand(hands, thing):
    """Tell of anything whether it is the number of one of the hands."""
    return is_between(thing, 0, len(hands) - 1)


def look_at_hand(program, thing):
    """Refuse anything that is no number of a hand of the program."""
    if not is_hand(program[1], thing):
        raise NoHand(thing)


def is_point(texts, thing):
    """Tell of anything whether it is a point of a hand with these texts."""
    if not is_tuple(thing, 2, 2) or not is_between(thing[0], 0, len(texts) - 1):
        return False
    return is_between(thing[1], 0, len(texts[thing[0]][1]))


def row_of(texts, point):
    """Tell the row at a point of a hand with these texts."""
    text, at = point
    rows = texts[text][1]
    return rows[at] if at < len(rows) else ROW_BEHIND_ALL


def names_begun(hand):
    """Tell the names of the hands that rows of this hand begin, some perhaps often."""
    return [row[1] for text in hand[2] for row in text[1] if row[0] == "begin"]


def numbers_from_first(hands):
    """Tell the numbers of the hands that no row begins."""
    begun = [name for hand in hands for name in names_begun(hand)]
    return [number for number, hand in enumerate(hands) if hand[0] not in begun]


def hands_of(program):
    """Tell the names of the hands."""
    look_at_program(program)
    return [hand[0] for hand in program[1]]


def first_hands(program):
    """Tell the numbers of the hands that are there from the first, rising."""
    look_at_program(program)
    return numbers_from_first(program[1])


def like_hands(program):
    """Tell the lots of like hands, by their least ones."""
    look_at_program(program)
    hands = program[1]
    # A hand that begins one or is begun is like none, not even one of the same texts.
    free = [number for number in numbers_from_first(hands) if not names_begun(hands[number])]
    lots = []
    for number, hand in enumerate(hands):
        lot = [number]
        if number in free:
            lot = [other for other in free if hands[other][1:] == hand[1:]]
        if lot[0] == number:
            lots.append(lot)
    return lots


def row_at(program, hand, point):
    """Tell the row at a point of a hand."""
    look_at_program(program)
    look_at_hand(program, hand)
    texts = program[1][hand][2]
    if not is_point(texts, point):
        raise NoPoint(point)
    return row_of(texts, point)
