"""A walker: a program gone by step by step, and back."""

from fewturnsover.errors import Bare, NoChoice
from fewturnsover.layout import layout_of
from fewturnsover.programs import look_at_hand
from fewturnsover.runs import put_together
from fewturnsover.standings import first_standing, stand_of, stepped


class Walker:
    """A program with what was stepped so far, and the standing at first and behind each step."""

    def __init__(self, program):
        self.layout = layout_of(program)
        self.whole = program
        self.path = []
        self.standings = [first_standing(self.layout)]

    def step(self, hand, *, choice=None):
        """Let a hand step by a choice."""
        look_at_hand(self.whole, hand)
        behind = stepped(self.layout, self.standings[-1], hand, choice)
        if behind is None:
            raise NoChoice(choice)
        self.path.append((hand, choice))
        self.standings.append(behind)

    def back(self):
        """Take the last step back."""
        if not self.path:
            raise Bare()
        self.path.pop()
        self.standings.pop()

    def stand(self):
        """Tell the stand; its piles may be deeper than a stand's."""
        return stand_of(self.standings[-1])

    def turns(self):
        """Tell what was stepped, turn by turn."""
        return put_together([(hand, [choice]) for hand, choice in self.path])

    def twin(self):
        """Tell a walker that is alike and goes on by itself."""
        other = Walker(self.whole)
        other.path = list(self.path)
        other.standings = list(self.standings)
        return other

    def __eq__(self, other):
        return isinstance(other, Walker) and self.whole == other.whole and self.path == other.path

    def __len__(self):
        return len(self.path)
