"""A keeper: a program and a number of turns, changed deed by deed, with tables that are used again."""

from fewturnsover.errors import Bare, NoLimit, NoPoint, TooMany
from fewturnsover.forms import is_between
from fewturnsover.programs import is_point, look_at_hand, look_at_program
from fewturnsover.tables import joined, table_of

MOST_TURNS = 4


def with_row(program, hand, point, row):
    """Tell the program with another row at a point of a hand."""
    boxes, hands = program
    name, own, texts = hands[hand]
    text, at = point
    title, rows = texts[text]
    changed = (title, rows[:at] + (row,) + rows[at + 1:])
    there = (name, own, texts[:text] + (changed,) + texts[text + 1:])
    return boxes, hands[:hand] + (there,) + hands[hand + 1:]


class Keeper:
    """A program and a number of turns, with the tables kept of its hands, and those ahead of each deed.

    `tables` tells of (hand, number of turns) the table; it is never changed, but another one put in its stead,
    so that twins and what stood ahead of a deed may share it.
    """

    def __init__(self, program, turns):
        look_at_program(program)
        if not is_between(turns, 0, MOST_TURNS):
            raise NoLimit()
        self.whole = program
        self.most = turns
        self.tables = {}
        self.many_made = 0
        self.deeds = []

    def note_deed(self):
        """Note what is there, ahead of a deed."""
        self.deeds.append((self.whole, self.most, self.tables))

    def raise_turns(self):
        """Raise the turns by one."""
        if self.most == MOST_TURNS:
            raise TooMany(MOST_TURNS + 1)
        self.note_deed()
        self.most += 1

    def change(self, hand, point, row):
        """Put another row at a point of a hand."""
        look_at_hand(self.whole, hand)
        texts = self.whole[1][hand][2]
        if not is_point(texts, point) or point[1] == len(texts[point[0]][1]):
            raise NoPoint(point)
        program = with_row(self.whole, hand, point, row)
        look_at_program(program)
        self.note_deed()
        self.whole = program
        self.tables = {key: self.tables[key] for key in self.tables if key[0] != hand}

    def back(self):
        """Take the last deed back."""
        if not self.deeds:
            raise Bare()
        self.whole, self.most, self.tables = self.deeds.pop()

    def ask(self):
        """Tell the least turns, up to the number of turns, by which a fault is come to, or None."""
        tables = {key: self.tables[key] for key in self.tables}
        made = 0
        used = []
        for hand in range(len(self.whole[1])):
            key = (hand, self.most)
            if self.most > 0 and key not in tables:
                tables[key] = table_of(self.whole, hand, self.most)
                made += 1
            used.append(tables.get(key, ({}, [])))
        told = joined(self.whole, used, self.most)
        self.tables = tables
        self.many_made += made
        return told

    def kept(self):
        """Tell which tables are kept: a sorted list of (hand, turns)."""
        return sorted(self.tables)

    def made(self):
        """Tell how many tables were made so far."""
        return self.many_made

    def turns(self):
        """Tell the number of turns."""
        return self.most

    def program(self):
        """Tell the program."""
        return self.whole

    def twin(self):
        """Tell a keeper that is alike, with the same deeds and tables, and goes on by itself."""
        other = Keeper(self.whole, self.most)
        other.tables = self.tables
        other.many_made = self.many_made
        other.deeds = list(self.deeds)
        return other

    def __eq__(self, other):
        return isinstance(other, Keeper) and self.whole == other.whole and self.most == other.most

    def __len__(self):
        return len(self.deeds)
