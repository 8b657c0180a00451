"""States that read the same on, put into classes."""


class Classes:
    """States, numbered from 0 on, put into classes by their kinds, then split until no class can be.

    Ways tells, state by state, a list of (point, state), one way at most by a point, in the order of points;
    states of one kind have ways by the same points. Two states are in one class at last just where their
    kinds are the same and their ways lead, point by point, to the same classes.
    """

    def __init__(self, ways, kinds):
        self.ways = ways
        self.behind = [[] for state in ways]
        for state, ahead in enumerate(ways):
            for point, other in ahead:
                self.behind[other].append(state)
        numbers = {}
        self.of_state = [numbers.setdefault(kind, len(numbers)) for kind in kinds]
        self.members = [{} for kind in numbers]
        for state, number in enumerate(self.of_state):
            self.members[number][state] = True
        # Of each class those states of which a way's class has changed since it was split.
        self.touched = {place: {one: True for one in known} for place, known in enumerate(self.members)}
        self.waiting = list(self.touched)

    def mark_of(self, state):
        """Tell to which classes a state's ways lead."""
        return tuple([self.of_state[other] for point, other in self.ways[state]])

    def parts_of(self, number, touched):
        """Tell the lists of touched states that are to leave a class, those of one mark in one."""
        parts = {}
        for state in touched:
            parts.setdefault(self.mark_of(state), []).append(state)
        # Others have the mark still that all had; no touched one has it, for its own has a new class in it.
        # Where there are no others the most stay.
        if len(touched) < len(self.members[number]):
            return list(parts.values())
        return sorted(list(parts.values()), key=len)[:-1]

    def split_class(self, number):
        """Split a class by where its states' ways lead; what leaves it are new classes."""
        parts = self.parts_of(number, self.touched.pop(number))
        for part in parts:
            for state in part:
                self.of_state[state] = len(self.members)
                del self.members[number][state]
            self.members.append({state: True for state in part})
        for part in parts:
            for other in part:
                for state in self.behind[other]:
                    self.touch(self.of_state[state], state)

    def touch(self, number, state):
        """Mark a state of a class."""
        if number not in self.touched:
            self.touched[number] = {}
            self.waiting.append(number)
        self.touched[number][state] = True


def classes_of(ways, kinds):
    """Tell, state by state, the number of its class."""
    found = Classes(ways, kinds)
    while found.waiting:
        found.split_class(found.waiting.pop())
    return found.of_state
