"""Programs and runs written as rows of words, and read back."""

from fewturnsover.errors import NoText
from fewturnsover.names import is_name
from fewturnsover.programs import look_at_program
from fewturnsover.rowtexts import is_row, read_row, shown_row
from fewturnsover.words import is_box, is_figures, read_boxes, shown_boxes

# Of each kind of row the kinds behind which it may stand; ahead of the first row is "".
BEHIND = {"boxes": ("",), "hand": ("boxes", "row"), "text": ("hand", "row"), "row": ("text", "row")}


def kind_of(words):
    """Tell of which kind a row is by its words, by itself; None of none."""
    if words[0] == "boxes":
        return "boxes" if all([is_box(word) for word in words[1:]]) else None
    if words[0] == "hand":
        return "hand" if len(words) > 1 and is_name(words[1]) and all([is_box(word) for word in words[2:]]) else None
    if words[0] == "text":
        return "text" if len(words) == 2 and is_name(words[1]) else None
    return "row" if is_row(words) else None


class Reading:
    """A program as far as its rows were read: `last` is the kind of the last row, hands and texts are lists."""

    def __init__(self):
        self.last = ""
        self.boxes = ()
        self.hands = []

    def takes(self, words):
        """Take a row in by its words; tell whether it is one that can stand there."""
        kind = kind_of(words)
        if kind is None or self.last not in BEHIND[kind]:
            return False
        self.last = kind
        if kind == "boxes":
            self.boxes = read_boxes(words[1:])
        elif kind == "hand":
            self.hands.append((words[1], read_boxes(words[2:]), []))
        elif kind == "text":
            self.hands[-1][2].append((words[1], []))
        else:
            self.hands[-1][2][-1][1].append(read_row(words))
        return True

    def as_program(self):
        """Tell what was read, tuples all through."""
        hands = []
        for name, own, texts in self.hands:
            hands.append((name, own, tuple([(title, tuple(rows)) for title, rows in texts])))
        return self.boxes, tuple(hands)


def shown(program):
    """Tell a program as a text."""
    look_at_program(program)
    boxes, hands = program
    rows = [" ".join(["boxes"] + shown_boxes(boxes))]
    for name, own, texts in hands:
        rows.append(" ".join(["hand", name] + shown_boxes(own)))
        for title, lines in texts:
            rows.append(f"text {title}")
            rows.extend([shown_row(line) for line in lines])
    return "\n".join(rows)


def read(text):
    """Tell the program that is written in a text."""
    if not isinstance(text, str):
        raise NoText(0)
    rows = text.split("\n")
    reading = Reading()
    for number, row in enumerate(rows):
        if not reading.takes(row.split(" ")):
            raise NoText(number)
    if reading.last != "row":
        raise NoText(len(rows))
    program = reading.as_program()
    look_at_program(program)
    return program


def shown_run(run):
    """Tell a run as a text."""
    rows = []
    for hand, choices in run:
        words = ["-" if choice is None else str(choice) for choice in choices]
        rows.append(" ".join([f"{hand}:"] + words))
    return "\n".join(rows)


def is_turn_row(words):
    """Tell whether words are a turn of a run."""
    if len(words) < 2 or not words[0].endswith(":") or not is_figures(words[0][:-1]):
        return False
    return all([word == "-" or is_figures(word) for word in words[1:]])


def read_run(text):
    """Tell the run that is written in a text."""
    if not isinstance(text, str):
        raise NoText(0)
    run = []
    # A run of no turns is written as the empty text, which has no rows.
    rows = text.split("\n") if text else []
    for number, row in enumerate(rows):
        words = row.split(" ")
        if not is_turn_row(words):
            raise NoText(number)
        run.append((int(words[0][:-1]), [None if word == "-" else int(word) for word in words[1:]]))
    return run
