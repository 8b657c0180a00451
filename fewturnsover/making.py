"""A program of one hand as it is made, with what leads its runs back."""

from fewturnsover.errors import TooMany
from fewturnsover.moves import number_of
from fewturnsover.orders import faults_at_first, turns_that_matter
from fewturnsover.owntexts import own_text
from fewturnsover.plans import LEAVE, Plan
from fewturnsover.programs import MOST_OWN, MOST_ROWS, MOST_TEXTS
from fewturnsover.turntexts import BESIDE


def look_at_many(many, most):
    """Refuse more than there may be."""
    if many > most:
        raise TooMany(many)


def script_of(plan, hand, part):
    """Tell the script of a text of a hand: of one beside its own ones, by its number, or of these, by its name."""
    if isinstance(part, int):
        text_beside = BESIDE[part]
        return text_beside(plan, hand)
    texts = plan.whole[1][hand][2]
    return own_text(plan, hand, texts[number_of(texts, part)][1])


def of_one_hand(boxes, texts):
    """Tell the program of one hand with these boxes and texts."""
    return (), (("a", tuple(boxes), tuple(texts)),)


class Making:
    """A program made of a program and an order: `whole` it is, `plan` its plan, None where no turn matters.

    `parts` tells, text by text, a tuple (hand, part) as the plan has it, `scripts` of each the script.
    """

    def __init__(self, program, order):
        self.plan = None
        self.parts = []
        self.scripts = []
        turns = turns_that_matter(program[1], order)
        if faults_at_first(program[1]):
            self.whole = of_one_hand([], [("a", (("fault",),))])
        elif not turns:
            self.whole = of_one_hand([], [("a", (("back",),))])
        else:
            self.plan = Plan(program, turns)
            self.whole = of_one_hand(self.plan.boxes, self.texts_made())

    def texts_made(self):
        """Tell the texts; refuse too many boxes, texts or rows."""
        look_at_many(len(self.plan.boxes), MOST_OWN)
        look_at_many(len(self.plan.titles), MOST_TEXTS)
        texts = []
        for (hand, part), title in self.plan.titles.items():
            script = script_of(self.plan, hand, part)
            self.parts.append((hand, part))
            self.scripts.append(script)
            look_at_many(len(script.lines), MOST_ROWS)
            texts.append((title, script.rows()))
        return texts

    def value(self, standing, name):
        """Tell the value of a box at a standing; 0 where there is no such box."""
        number = number_of(self.plan.boxes, name)
        return 0 if number is None else standing[1][0][0][number]

    def turn_at(self, standing):
        """Tell the number, in the plan's order, of the turn in which the hand is at a standing."""
        hand, part = self.parts[standing[1][0][1][0][0]]
        if part == LEAVE:
            return self.value(standing, self.plan.bound) - 1
        return self.plan.places[hand][self.value(standing, self.plan.turn)]

    def step_at(self, standing, choice):
        """Tell (number of the turn, choice) of the step of the first program that a step here does; None of none."""
        text, at = standing[1][0][1][0]
        script = self.scripts[text]
        if at not in script.sources:
            return None
        row = script.sources[at]
        if row[0] == "begin":
            choice = None
        elif row[0] == "go":
            choice = [way for way in row[1] if script.labels[way] == choice][0]
        return self.turn_at(standing), choice
