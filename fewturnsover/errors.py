"""What is refused, each kind by an error class of its own."""

# The words of the errors hold no fields: a field may be anything, also what cannot be shown.


class TurnsError(ValueError):
    """What was handed in is not what it has to be."""


class NoProgram(TurnsError):
    """It is no program: the fields tell at which hand, text and row."""

    def __init__(self, hand, text, row):
        super().__init__("no program: see hand, text and row")
        self.hand = hand
        self.text = text
        self.row = row


class NoRun(TurnsError):
    """It is no run: the fields tell at which turn, and at which of its choices."""

    def __init__(self, number, at):
        super().__init__("no run: see number and at")
        self.number = number
        self.at = at


class NoStand(TurnsError):
    """It is no stand of the program."""

    def __init__(self):
        super().__init__("no stand of the program")


class NoMachine(TurnsError):
    """It is no machine."""

    def __init__(self):
        super().__init__("no machine")


class NoLimit(TurnsError):
    """It is no limit."""

    def __init__(self):
        super().__init__("no limit")


class NoOrder(TurnsError):
    """It is no order of turns."""

    def __init__(self):
        super().__init__("no order of turns")


class NoText(TurnsError):
    """It is no written program or run: the field tells at which row."""

    def __init__(self, row):
        super().__init__("no such text: see row")
        self.row = row


class NoRow(TurnsError):
    """It is no row of a desk."""

    def __init__(self):
        super().__init__("no row of a desk")


class NoHand(IndexError):
    """It is no number of a hand."""

    def __init__(self, hand):
        super().__init__("no such hand")
        self.hand = hand


class NoPoint(IndexError):
    """It is no point of the hand."""

    def __init__(self, point):
        super().__init__("no such point")
        self.point = point


class NoChoice(KeyError):
    """It is no choice that the hand has there."""

    def __init__(self, choice):
        super().__init__("no such choice")
        self.choice = choice


class NoName(KeyError):
    """Nothing is kept by this name."""

    def __init__(self, name):
        super().__init__("no such name")
        self.name = name


class TooMany(OverflowError):
    """More would come than may be."""

    def __init__(self, many):
        super().__init__("too many: see many")
        self.many = many


class Bare(RuntimeError):
    """There is nothing to be taken back."""

    def __init__(self):
        super().__init__("nothing to be taken back")
