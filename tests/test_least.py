"""The least machine."""

import random
import unittest

from fewturnsover.least import least
from fewturnsover.machines import is_machine
from tests.machining import all_read, joined, living, machine_of, renumbered, states_in, twice, ways
from tests.test_machines import MACHINE, POINTS, some_machine

A, B, C = POINTS
EMPTY = ((), (), ())


def some_controls(chance, machine):
    """The machine with controls of several lengths."""
    lengths = [(), (chance.randint(-1, 1),), (0, chance.randint(0, 2)), (1,), (1, 0, 0)]
    return machine_of([(chance.choice(lengths), state) for control, state in machine[0]], machine[1], machine[2])


class Least(unittest.TestCase):
    def is_least(self, machine):
        """What [11] says of the least machine, one by one; tell it."""
        told = least(machine)
        self.assertIs(is_machine(told), True)
        begins, edges, ends = told
        controls = [control for control, state in begins]
        self.assertEqual(len(controls), len(set(controls)))
        self.assertEqual(len(edges), len({edge[:2] for edge in edges}))
        self.assertEqual(living(told), set(states_in(told)))
        self.assertEqual(states_in(told), list(range(len(states_in(told)))))
        self.assertEqual(self.come_to(told), states_in(told))
        self.assertEqual(least(told), told)
        return told

    def come_to(self, machine):
        """The states as they are come to, control by control, then state by state, by points."""
        found = []
        for control, state in machine[0]:
            if state not in found:
                found.append(state)
        for state in found:
            for known, point, other in machine[1]:
                if known == state and other not in found:
                    found.append(other)
        return found

    def apart(self, machine):
        """No two states of a machine of one edge by a point read the same on."""
        states = states_in(machine)
        ends = set(machine[2])
        parts = {state: state in ends for state in states}
        for count in states:
            parts = {state: (parts[state], tuple((point, parts[other]) for known, point, other in machine[1] if known == state))
                     for state in states}
            numbers = {}
            parts = {state: numbers.setdefault(parts[state], len(numbers)) for state in states}
        self.assertEqual(len(set(parts.values())), len(states))

    def test_nothing_read(self):
        for machine in (EMPTY, ((((), 0),), (), ()), ((), ((0, A, 1),), (1,)), ((((), 0),), ((0, A, 1), (1, A, 0)), (2,)),
                        ((), (), (0, 5))):
            self.assertEqual(least(machine), EMPTY)

    def test_the_pile_of_no_points(self):
        self.assertEqual(least(((((3,), 7),), (), (7,))), ((((3,), 0),), (), (0,)))
        self.assertEqual(least(((((), 7), ((), 8), ((1,), 8)), (), (7, 8))), ((((), 0), ((1,), 0)), (), (0,)))

    def test_several_states_for_one_control(self):
        machine = ((((0,), 4), ((0,), 5)), ((4, A, 6), (5, B, 7)), (6, 7))
        self.assertEqual(least(machine=machine), ((((0,), 0),), ((0, A, 1), (0, B, 1)), (1,)))

    def test_several_edges_by_one_point(self):
        machine = ((((), 0),), ((0, A, 1), (0, A, 2), (1, B, 3), (2, C, 3)), (3,))
        self.assertEqual(least(machine), ((((), 0),), ((0, A, 1), (1, B, 2), (1, C, 2)), (2,)))

    def test_rings(self):
        ring = ((0, A, 1), (1, A, 2), (2, A, 3), (3, A, 0))
        self.assertEqual(least(((((), 0),), ring, (0, 1, 2, 3))), ((((), 0),), ((0, A, 0),), (0,)))
        self.assertEqual(least(((((), 0),), ring, (0, 2))), ((((), 0),), ((0, A, 1), (1, A, 0)), (0,)))
        self.assertEqual(least(((((), 1),), ring, (0,))), ((((), 0),), ((0, A, 1), (1, A, 2), (2, A, 3), (3, A, 0)), (3,)))

    def test_states_that_lead_nowhere_or_are_never_come_to(self):
        machine = ((((), 0), ((), 9), ((5,), 9)), ((0, A, 1), (0, B, 9), (0, C, 0), (8, A, 1), (9, A, 9)), (1, 7))
        self.assertEqual(least(machine), ((((), 0),), ((0, A, 1), (0, C, 0)), (1,)))

    def test_states_that_read_the_same_on(self):
        machine = ((((), 0),), ((0, A, 1), (0, B, 2), (1, C, 3), (2, C, 4), (4, C, 4), (3, C, 3)), (3, 4))
        self.assertEqual(least(machine), ((((), 0),), ((0, A, 1), (0, B, 1), (1, C, 2), (2, C, 2)), (2,)))

    def test_numbers_as_they_are_come_to(self):
        begins = (((0,), 9), ((0, 0), 5), ((1,), 7))
        edges = ((5, A, 6), (6, A, 6), (6, B, 2), (7, A, 6), (7, B, 5), (9, B, 3), (9, C, 4), (3, A, 2), (4, A, 4), (4, C, 2))
        told = ((((0,), 0), ((0, 0), 1), ((1,), 2)),
                ((0, B, 3), (0, C, 4), (1, A, 5), (2, A, 5), (2, B, 1), (3, A, 6), (4, A, 4), (4, C, 6), (5, A, 5), (5, B, 6)), (6,))
        self.assertEqual(self.is_least(machine_of(begins, edges, [2])), told)

    def test_controls_of_several_lengths_and_below_nought(self):
        begins = (((), 1), ((-1,), 0), ((-1, 5), 1), ((0,), 0))
        self.assertEqual(least((begins, ((0, A, 1),), (1,))), ((((), 0), ((-1,), 1), ((-1, 5), 0), ((0,), 1)), ((1, A, 0),), (0,)))

    def test_machines_by_chance(self):
        chance = random.Random(11)
        for count in range(300):
            machine = some_controls(chance, some_machine(chance))
            told = self.is_least(machine)
            self.apart(told)
            self.assertEqual(all_read(told, POINTS, 5), all_read(machine, POINTS, 5))

    def test_the_same_of_machines_that_read_the_same(self):
        chance = random.Random(12)
        for count in range(300):
            machine = some_controls(chance, some_machine(chance))
            told = least(machine)
            states = states_in(machine)
            names = dict(zip(states, chance.sample(range(40), len(states))))
            self.assertEqual(least(renumbered(machine, names)), told)
            self.assertEqual(least(twice(machine)), told)
            self.assertEqual(least(joined(machine, renumbered(machine, {state: state + 50 for state in states}))), told)
            dead = machine_of([((), 70), ((0,), 71)], [(70, A, 71), (71, B, 70)] + [(state, C, 70) for state in states], [])
            self.assertEqual(least(joined(machine, dead)), told)
            never = machine_of([], [(80, A, 81), (81, B, 80)] + [(80, C, state) for state in states], [81])
            self.assertEqual(least(joined(machine, never)), told)
            self.assertEqual(least(joined(machine, told_apart(told))), told)

    def test_unlike_of_machines_that_read_other_things(self):
        chance = random.Random(13)
        machines = [some_machine(chance) for count in range(60)]
        for one in machines[:30]:
            for other in machines:
                same = all_read(one, POINTS, 5) == all_read(other, POINTS, 5)
                if not same or least(one) == least(other):
                    self.assertEqual(least(one) == least(other), same)

    def test_long_piles_and_many_lots(self):
        edges = tuple((state, A, state + 1) for state in range(4000))
        self.assertEqual(least(((((), 0),), edges, (4000,))), ((((), 0),), edges, (4000,)))
        # An A that stands nine points ahead of the end: as many states as there are lots of nine.
        late = ((0, A, 0), (0, A, 1), (0, B, 0)) + tuple((at, point, at + 1) for at in range(1, 9) for point in (A, B))
        told = least(machine_of([((), 0)], late, [9]))
        self.assertEqual(len(states_in(told)), 512)
        self.assertEqual(least(told), told)

    def test_asked_twice_and_what_is_handed_in_stays(self):
        self.assertEqual(least(MACHINE), least(MACHINE))
        self.assertEqual(ways(MACHINE, {0}, (A,)), {1})


def told_apart(machine):
    """The machine with numbers far from its own."""
    return renumbered(machine, {state: state + 500 for state in states_in(machine)})


if __name__ == "__main__":
    unittest.main()
