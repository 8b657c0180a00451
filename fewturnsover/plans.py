"""What a program made of one hand has: by which turns it goes, in which order of hands, its boxes and texts.

The hands go one behind the other, in the order in which they come first, each with all of its turns. Behind each
turn but the last the common state is kept: by the hand that ends the turn, where it goes ahead of the one that
has the next turn; else that one guesses it, and the hand that ends the turn checks it. A hand that faults, and
isn't the last to go, notes at which turn; those behind it go on by their turns ahead of that one alone.
"""

from fewturnsover.orders import can_fault
from fewturnsover.programs import numbers_from_first

LETTERS = "abcdefghijklmnopqrstuvwxyz"
# The texts that a hand has beside its own, by which it begins, goes from turn to turn, ends and faults.
LEAD = 0
SWITCH = 1
LEAVE = 2
FALL = 3


def name_of(number):
    """Tell the name of a box or text of this number."""
    return LETTERS[number // 26] + LETTERS[number % 26]


def boxes_named(hand):
    """Tell a dict of the names of the boxes that rows of a hand name."""
    found = {}
    for text in hand[2]:
        for row in text[1]:
            if row[0] == "set" or row[0] == "if" or row[0] == "wait":
                found[row[1]] = True
            if row[0] == "set" and row[2][0] == "of":
                found[row[2][1]] = True
    return found


class Plan:
    """The plan of a program made of a program and the turns of an order that matter, one or more.

    `line` are the hands as they go, `places` tells of each the numbers of its turns; `faulty` those that can
    fault. `shared` are the boxes that two hands or more name, by their names, and whether a hand was begun, by its
    number. `now` tells of these the box of what they have now, `links` of (number of a turn, one of these) the
    box of what it has as the turn begins; `own` of (hand, name) the box of what that hand alone names. `turn` is
    the box that counts a hand's turns, `bound` that of the number of the turn that faults, from 1 on.
    """

    def __init__(self, program, order):
        self.whole = program
        self.order = order
        self.line = list({hand: True for hand in order})
        self.places = {hand: [at for at, other in enumerate(order) if other == hand] for hand in self.line}
        self.faulty = [hand for hand in self.line if can_fault(program[1], hand)]
        self.named = {hand: boxes_named(program[1][hand]) for hand in self.line}
        self.boxes = []
        self.shared = self.things_shared()
        self.now = {thing: self.new_box(size) for thing, size in self.shared.items()}
        self.links = {}
        for at in range(1, len(order)):
            for thing, size in self.shared.items():
                self.links[(at, thing)] = self.new_box(size)
        self.own = {}
        self.put_own_boxes()
        most = max([len(places) for places in self.places.values()])
        self.turn = self.new_box(most) if most > 1 else None
        alone = self.faulty == self.line[-1:]
        self.bound = None if alone else self.new_box(len(order) + 1)
        self.titles = {}
        for hand in self.line:
            self.put_titles(hand)

    def things_shared(self):
        """Tell a dict from what is shared to sizes."""
        found = {}
        for name, size in self.whole[0]:
            if len([hand for hand in self.line if name in self.named[hand]]) > 1:
                found[name] = size
        there = numbers_from_first(self.whole[1])
        for hand in self.line:
            if hand not in there:
                found[hand] = 2
        return found

    def new_box(self, size):
        """Tell the name of a new box."""
        name = name_of(len(self.boxes))
        self.boxes.append((name, size))
        return name

    def put_own_boxes(self):
        """Give each hand boxes for what it alone names, those of one hand to the next one again."""
        known = {}
        for hand in self.line:
            used = {}
            for name, size in self.whole[0] + self.whole[1][hand][1]:
                if name in self.named[hand] and name not in self.shared:
                    at = used.get(size, 0)
                    used[size] = at + 1
                    if (size, at) not in known:
                        known[(size, at)] = self.new_box(size)
                    self.own[(hand, name)] = known[(size, at)]

    def put_titles(self, hand):
        """Name the texts of a hand: those beside its own by their kind, its own by their names."""
        parts = [LEAD]
        if self.can_switch(hand):
            parts.extend([SWITCH, LEAVE])
        if hand in self.faulty and not self.is_last(hand):
            parts.append(FALL)
        for part in parts + [text[0] for text in self.whole[1][hand][2]]:
            self.titles[(hand, part)] = name_of(len(self.titles))

    def is_last(self, hand):
        """Tell whether a hand is the last one to go."""
        return hand == self.line[-1]

    def can_switch(self, hand):
        """Tell whether anything can come behind a turn of a hand."""
        return not self.is_last(hand) or self.bound is not None or len(self.places[hand]) > 1

    def faults_behind(self, hand):
        """Tell whether one of the hands that go behind a hand can fault."""
        behind = self.line[self.line.index(hand) + 1:]
        return any([other in self.faulty for other in behind])

    def is_kept(self, at):
        """Tell whether what a turn begins with is kept by the hand of the turn ahead, not guessed."""
        return self.line.index(self.order[at - 1]) < self.line.index(self.order[at])

    def box_of(self, hand, name):
        """Tell the box for what a hand names so."""
        return self.now[name] if name in self.shared else self.own[(hand, name)]
