"""All that a hand comes to in a turn, from what a machine reads: edges that are put in until none is new.

Each control has a state of its own, to which no edge leads; each text that is called has, for each control in
which it is, one that stands for all that lies under it. Each edge has a reason, so that what is read can be
led back, row by row, to what the machine itself reads.
"""

from fewturnsover.errors import TooMany
from fewturnsover.machines import by_points, living_edges, states_by_control

MOST_EDGES = 40000
OWN = "own"
STEP = "step"
CALL = "call"
OVER = "over"


class Growth:
    """The states and edges that grow from a machine of a hand's turn.

    `reasons` tells of each edge (state, point, state) a tuple: (OWN,) of the machine's own ones; (STEP, choice,
    edge) of one that came by a step from what that edge reads, also of one that leads from under a called
    text; (CALL,) of one by a text's begin; (OVER, state) of one that came by what lies under that state.
    `overs` tells of (state of a control, state) the edge by which the hand goes back to what lies under it.
    """

    def __init__(self, layout, hand, machine, far):
        self.layout = layout
        self.hand = hand
        # The machine's own states keep their numbers; new ones are numbered from below nought on.
        self.controls = {}
        self.control_of = {}
        self.middles = {}
        self.reasons = {}
        self.ahead = {}
        self.overs = {}
        self.lying_over = {}
        self.ends = {state: True for state in machine[2]}
        self.waiting = []
        self.known_moves = {}
        edges = by_points(living_edges(machine, far))
        for state in edges:
            self.put_own(state, edges[state])
        states = states_by_control(machine, far)
        for control in states:
            for state in states[control]:
                self.put_own(self.state_of(control), edges.get(state, {}))
                if state in self.ends:
                    self.ends[self.state_of(control)] = True

    def put_own(self, state, edges):
        """Put in edges of the machine itself."""
        for point, behind in edges.items():
            for other in behind:
                self.put_edge((state, point, other), (OWN,))

    def new_state(self):
        """Tell a number that no state has yet."""
        return -1 - len(self.controls) - len(self.middles)

    def state_of(self, control):
        """Tell the state of a control."""
        if control not in self.controls:
            state = self.new_state()
            self.controls[control] = state
            self.control_of[state] = control
        return self.controls[control]

    def middle_of(self, control, point):
        """Tell the state that stands for what lies under a text called, by its begin, in a control."""
        key = (control, point)
        if key not in self.middles:
            self.middles[key] = self.new_state()
        return self.middles[key]

    def put_edge(self, edge, reason):
        """Put an edge in, if it is new, and what follows of it at once."""
        if edge in self.reasons:
            return
        if len(self.reasons) == MOST_EDGES:
            raise TooMany(MOST_EDGES)
        self.reasons[edge] = reason
        state, point, other = edge
        if state in self.control_of:
            self.waiting.append(edge)
        self.ahead.setdefault(state, []).append((point, other))
        for over in list(self.lying_over.get(state, [])):
            self.put_edge((over, point, other), (OVER, state))

    def put_over(self, over, state, edge):
        """Let what lies under a state be read of a control, if it is new, by an edge that the hand goes back from."""
        if (over, state) in self.overs:
            return
        self.overs[(over, state)] = edge
        self.lying_over.setdefault(state, []).append(over)
        for point, other in list(self.ahead.get(state, [])):
            self.put_edge((over, point, other), (OVER, state))

    def moves_at(self, control, point):
        """Tell the hand's moves at a point."""
        key = (control, point)
        if key not in self.known_moves:
            self.known_moves[key] = self.layout.moves(self.hand, control, point)
        return self.known_moves[key]

    def follow(self, edge):
        """Put in what a hand comes to by one step from what an edge of a control reads."""
        state, point, other = edge
        for choice, control, points in self.moves_at(self.control_of[state], point):
            begin = self.state_of(control)
            if len(points) == 1:
                self.put_edge((begin, points[0], other), (STEP, choice, edge))
            elif points:
                middle = self.middle_of(control, points[0])
                self.put_edge((begin, points[0], middle), (CALL,))
                self.put_edge((middle, points[1], other), (STEP, choice, edge))
            else:
                self.put_over(begin, other, edge)

    def grow(self):
        """Go on until nothing is new."""
        at = 0
        while at < len(self.waiting):
            self.follow(self.waiting[at])
            at += 1

    def as_machine(self):
        """Tell a machine of all that was come to; not the least one."""
        ends = list(self.ends) + [over for over, state in self.overs if state in self.ends]
        return tuple(sorted(self.controls.items())), tuple(self.reasons), tuple(ends)


def growth_of(layout, hand, machine, far):
    """Tell the growth of a machine of a hand's turn, all of it."""
    growth = Growth(layout, hand, machine, far)
    growth.grow()
    return growth


def layers_of(growth, state, pile):
    """Tell, for the pile's begin and behind each point, a dict of the states come to, each with one ahead of it."""
    layers = [{state: None}]
    for point in pile:
        found = {}
        for known in layers[-1]:
            for by, other in growth.ahead.get(known, []):
                if by == point and other not in found:
                    found[other] = known
        layers.append(found)
    return layers


def path_of(growth, control, pile):
    """Tell the edges by which a control and a pile of some points are read, last one first; None where it isn't."""
    layers = layers_of(growth, growth.controls.get(control), pile)
    ends = [state for state in layers[-1] if state in growth.ends]
    if not ends:
        return None
    path = []
    state = ends[0]
    for at in range(len(pile), 0, -1):
        ahead = layers[at][state]
        path.append((ahead, pile[at - 1], state))
        state = ahead
    return path


def empty_path_of(growth, control):
    """Tell the one edge by which the hand comes to be over in a control, as a path; None where it doesn't."""
    state = growth.controls.get(control)
    for over, under in growth.overs:
        if over == state and under in growth.ends:
            return [growth.overs[(over, under)]]
    return None


def choices_back(growth, path):
    """Lead a path back to one of the machine's own edges; tell the choices, last one first."""
    choices = []
    while growth.reasons[path[-1]][0] != OWN:
        edge = path.pop()
        reason = growth.reasons[edge]
        if reason[0] == CALL:
            reason = growth.reasons[path.pop()]
        if reason[0] == STEP:
            path.append(reason[2])
            choices.append(reason[1])
        else:
            state, point, other = edge
            path.append((reason[1], point, other))
            path.append(growth.overs[(state, reason[1])])
            choices.append(None)
    return choices
