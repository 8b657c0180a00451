"""Which states are over others: what these read on, those read on, step by step.

A pair (one, other) says that one is over the other, by the greatest relation such that: where the other is
an end, so is the one; and for each edge of the other by a point to a state from which an end can be come to
there is one of the one by that point to a state over that.
"""

from fewturnsover.machines import by_points, living_edges


class Overs:
    """Pairs that were asked for and all that these need, each with what it hangs on.

    A need is a list of pairs of which one has to hold. All hold at first; those that don't are dropped, then
    those whose needs have none left.
    """

    def __init__(self, machine, far):
        self.far = far
        # An edge to a state from which no end can be come to leads to none that is over another one.
        self.edges = by_points(living_edges(machine, far))
        self.dropped = {}
        self.asked = {}
        self.waiting = []
        self.left = []
        self.owners = []
        self.needed_by = {}

    def ask_for(self, pair):
        """Take a pair in, to be looked at."""
        if pair not in self.asked:
            self.asked[pair] = True
            self.waiting.append(pair)

    def look_at_all(self):
        """Look at all pairs that were asked for, and at those that they need; then drop those that don't hold."""
        while self.waiting:
            self.look_at(self.waiting.pop())
        falling = list(self.dropped)
        while falling:
            for number in self.needed_by.get(falling.pop(), []):
                self.left[number] -= 1
                owner = self.owners[number]
                if self.left[number] == 0 and owner not in self.dropped:
                    self.dropped[owner] = True
                    falling.append(owner)

    def look_at(self, pair):
        """Find what a pair needs; drop it where that can't be."""
        one, other = pair
        if one == other:
            return
        # No points to an end are those of an end itself.
        if self.far[other] == 0 and self.far.get(one) != 0:
            self.dropped[pair] = True
            return
        ways = self.edges.get(one, {})
        for point, behind in self.edges.get(other, {}).items():
            if point not in ways:
                self.dropped[pair] = True
                return
            for onward in behind:
                self.need(pair, [(way, onward) for way in ways[point]])

    def need(self, owner, pairs):
        """Take in a need: one of the pairs has to hold for the owner to hold."""
        number = len(self.left)
        self.left.append(len(pairs))
        self.owners.append(owner)
        for pair in pairs:
            self.needed_by.setdefault(pair, []).append(number)
            self.ask_for(pair)

    def holds(self, pair):
        """Tell whether a pair that was asked for holds, all having been looked at."""
        return pair not in self.dropped
