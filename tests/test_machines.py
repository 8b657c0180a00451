"""Machines: what one is, what it reads, of which controls, and the least pile."""

import itertools
import random
import unittest

from fewturnsover.machines import controls_of, is_machine, least_pile, reads
from tests.samples import anything, doubled, item_at, never, paths, replaced

MACHINE = (
    (((0, 1), 0), ((0, 1), 2), ((1, 0), 1), ((1, 0, 0), 3), ((2, -5), 3)),
    ((0, (0, 0), 1), (0, (0, 1), 0), (0, (0, 1), 1), (1, (0, 0), 2), (2, (3, 1), 1), (4, (0, 0), 5), (5, (0, 0), 4)),
    (1, 7),
)
POINTS = [(0, 0), (0, 1), (1, 0)]


def ways(machine, states, pile):
    """The states to which edges lead from some of these by a pile."""
    for point in pile:
        states = {other for state, known, other in machine[1] if known == point and state in states}
    return states


def piles(most):
    """All piles of the points, of as few points as can be first, then as tuples are sorted."""
    for many in range(most + 1):
        yield from itertools.product(POINTS, repeat=many)


def read_piles(machine, control, most):
    begins = {state for known, state in machine[0] if known == control}
    return [pile for pile in piles(most) if ways(machine, begins, pile) & set(machine[2])]


def some_machine(chance):
    """A machine of five states at most; so its least piles have four points at most."""
    states = range(chance.randint(1, 5))
    begins = {((chance.randint(0, 2),), chance.choice(states)) for count in range(chance.randint(0, 5))}
    edges = {(chance.choice(states), chance.choice(POINTS), chance.choice(states)) for count in range(chance.randint(0, 9))}
    ends = {chance.choice(states) for count in range(chance.randint(0, 2))}
    return tuple(sorted(begins)), tuple(sorted(edges)), tuple(sorted(ends))


class IsMachine(unittest.TestCase):
    def lets(self, thing):
        self.assertIs(is_machine(thing), True)

    def denies(self, thing):
        self.assertIs(is_machine(thing), False)

    def test_machines(self):
        self.lets(MACHINE)
        self.lets(((), (), ()))
        self.lets(((((), 0),), (), (0,)))
        self.lets(((((), 10 ** 29),), ((10 ** 29, (10 ** 29, 0), 0),), (10 ** 29,)))
        self.assertIs(is_machine(thing=MACHINE), True)
        chance = random.Random(1)
        for count in range(50):
            self.lets(some_machine(chance))

    def test_things_of_every_kind(self):
        for thing in anything():
            if not (isinstance(thing, tuple) and len(thing) == 3 and all(part == () for part in thing)):
                self.denies(thing)

    def test_one_thing_of_another_kind(self):
        for path in paths(MACHINE):
            in_control = len(path) == 4 and path[0] == 0 and path[2] == 0
            for thing in never():
                if not (in_control and type(thing) is int):
                    self.denies(replaced(MACHINE, path, thing))

    def test_truths_for_numbers(self):
        for path in paths(MACHINE):
            if type(item_at(MACHINE, path)) is int and item_at(MACHINE, path) in (0, 1):
                self.denies(replaced(MACHINE, path, bool(item_at(MACHINE, path))))
        self.denies(((((True,), 0),), (), ()))
        self.denies(((((0, False), 0),), (), ()))
        self.denies(((), (), (True,)))
        self.denies(((), (), (False,)))

    def test_lists_for_tuples(self):
        for path in paths(MACHINE):
            if isinstance(item_at(MACHINE, path), tuple):
                self.denies(replaced(MACHINE, path, list(item_at(MACHINE, path))))

    def test_numbers_below_nought(self):
        self.lets(((((-1, -2), 0),), (), ()))
        self.denies(((((0,), -1),), (), ()))
        for edge in ((-1, (0, 0), 0), (0, (-1, 0), 0), (0, (0, -1), 0), (0, (0, 0), -1)):
            self.denies(((), (edge,), ()))
        self.denies(((), (), (-1,)))
        self.denies(((), (), (-1, 0)))

    def test_order_and_twice(self):
        for part in range(3):
            many = len(MACHINE[part])
            for at in range(many):
                self.denies(doubled(MACHINE, (part, at)))
            for one, other in itertools.combinations(range(many), 2):
                changed = list(MACHINE[part])
                changed[one], changed[other] = changed[other], changed[one]
                self.denies(replaced(MACHINE, (part,), tuple(changed)))

    def test_one_left_out_is_a_machine_still(self):
        for part in range(3):
            for at in range(len(MACHINE[part])):
                self.lets(replaced(MACHINE, (part,), MACHINE[part][:at] + MACHINE[part][at + 1:]))

    def test_other_lengths(self):
        self.denies(MACHINE[:2])
        self.denies(MACHINE + ((),))
        self.denies(((((0,),),), (), ()))
        self.denies(((((0,), 0, 0),), (), ()))
        self.denies(((), ((0, (0, 0)),), ()))
        self.denies(((), ((0, (0, 0), 0, 0),), ()))
        self.denies(((), ((0, (0,), 0),), ()))
        self.denies(((), ((0, (0, 0, 0), 0),), ()))
        self.denies(((), ((0, 0, 0),), ()))
        self.denies((((0, 0),), (), ()))

    def test_what_is_handed_in_stays(self):
        thing = ([((0,), 0)], [], [0])
        self.denies(thing)
        self.assertEqual(thing, ([((0,), 0)], [], [0]))


class Reads(unittest.TestCase):
    def test_point_by_point(self):
        for control, pile, wanted in [
            ((0, 1), (), False),
            ((0, 1), ((0, 0),), True),
            ((0, 1), ((0, 1),), True),
            ((0, 1), ((3, 1),), True),
            ((0, 1), ((0, 1), (0, 1), (0, 0)), True),
            ((0, 1), ((3, 1), (0, 0), (3, 1)), True),
            ((0, 1), ((3, 1), (0, 0)), False),
            ((0, 1), ((1, 0),), False),
            ((0, 1), ((0, 0), (3, 1)), False),
            ((1, 0), (), True),
            ((1, 0), ((0, 0), (3, 1)), True),
            ((1, 0), ((3, 1),), False),
            ((1, 0, 0), (), False),
            ((2, -5), ((0, 0),), False),
            ((7, 7), (), False),
            ((), (), False),
        ]:
            self.assertIs(reads(MACHINE, control, pile), wanted, (control, pile))

    def test_by_names(self):
        self.assertIs(reads(machine=MACHINE, control=(1, 0), pile=()), True)

    def test_several_states_for_one_control(self):
        machine = ((((), 0), ((), 1)), ((0, (0, 0), 2), (1, (0, 1), 2)), (2,))
        self.assertIs(reads(machine, (), ((0, 0),)), True)
        self.assertIs(reads(machine, (), ((0, 1),)), True)
        self.assertIs(reads(machine, (), ()), False)

    def test_several_edges_by_one_point(self):
        machine = ((((), 0),), ((0, (0, 0), 1), (0, (0, 0), 2), (1, (1, 0), 3), (2, (1, 1), 3)), (3,))
        self.assertIs(reads(machine, (), ((0, 0), (1, 0))), True)
        self.assertIs(reads(machine, (), ((0, 0), (1, 1))), True)
        self.assertIs(reads(machine, (), ((0, 0),)), False)

    def test_long_piles(self):
        machine = ((((), 0),), ((0, (0, 0), 1), (1, (0, 0), 0)), (0,))
        self.assertIs(reads(machine, (), ((0, 0),) * 1000), True)
        self.assertIs(reads(machine, (), ((0, 0),) * 1001), False)

    def test_machines_by_chance(self):
        chance = random.Random(2)
        for count in range(200):
            machine = some_machine(chance)
            for control in ((0,), (1,), (2,), ()):
                told = [pile for pile in piles(4) if reads(machine, control, pile)]
                self.assertEqual(told, read_piles(machine, control, 4))


class ControlsOf(unittest.TestCase):
    def test_those_of_which_something_is_read(self):
        self.assertEqual(controls_of(MACHINE), [(0, 1), (1, 0)])
        self.assertEqual(controls_of(machine=((), (), ())), [])
        self.assertEqual(controls_of(((((), 0),), (), (0,))), [()])
        self.assertEqual(controls_of(((((), 0),), (), ())), [])

    def test_each_once_and_rising(self):
        begins = (((-1,), 0), ((0,), 0), ((0,), 1), ((0, 0), 1), ((1,), 2))
        self.assertEqual(controls_of((begins, ((2, (0, 0), 1),), (0, 1))), [(-1,), (0,), (0, 0), (1,)])
        self.assertEqual(controls_of((begins, (), (1,))), [(0,), (0, 0)])

    def test_rings_that_lead_to_no_end(self):
        ring = ((0, (0, 0), 1), (1, (0, 0), 0))
        self.assertEqual(controls_of(((((5,), 0),), ring, (2,))), [])
        self.assertEqual(controls_of(((((5,), 0),), ring + ((1, (0, 1), 2),), (2,))), [(5,)])

    def test_told_lists_are_new_ones(self):
        told = controls_of(MACHINE)
        told.append(None)
        self.assertEqual(controls_of(MACHINE), [(0, 1), (1, 0)])

    def test_machines_by_chance(self):
        chance = random.Random(3)
        for count in range(200):
            machine = some_machine(chance)
            wanted = [control for control in ((0,), (1,), (2,)) if read_piles(machine, control, 4)]
            self.assertEqual(controls_of(machine), wanted)


class LeastPile(unittest.TestCase):
    def test_the_fewest_points_first(self):
        machine = ((((), 0),), ((0, (0, 0), 1), (0, (9, 9), 2), (1, (0, 0), 2)), (2,))
        self.assertEqual(least_pile(machine, ()), ((9, 9),))

    def test_then_as_tuples_are_sorted(self):
        edges = ((0, (0, 1), 2), (0, (1, 0), 1), (0, (1, 0), 2), (1, (0, 5), 3), (1, (0, 7), 4), (2, (0, 6), 4), (3, (2, 0), 5),
                 (4, (1, 9), 5))
        self.assertEqual(least_pile(((((), 0),), edges, (5,)), ()), ((0, 1), (0, 6), (1, 9)))
        self.assertEqual(least_pile(((((), 0),), edges[1:], (5,)), ()), ((1, 0), (0, 5), (2, 0)))
        self.assertEqual(least_pile(((((), 0),), edges[:3] + edges[4:], (5,)), ()), ((0, 1), (0, 6), (1, 9)))

    def test_states_equally_far_go_on_together(self):
        edges = ((0, (0, 0), 1), (0, (0, 0), 2), (1, (1, 1), 3), (2, (1, 0), 3))
        self.assertEqual(least_pile(((((), 0),), edges, (3,)), ()), ((0, 0), (1, 0)))

    def test_several_states_for_one_control(self):
        edges = ((0, (0, 0), 1), (1, (0, 0), 5), (2, (8, 0), 5), (3, (7, 0), 5))
        self.assertEqual(least_pile(((((1,), 0), ((1,), 2), ((1,), 3)), edges, (5,)), (1,)), ((7, 0),))

    def test_the_pile_of_no_points(self):
        self.assertEqual(least_pile(MACHINE, (1, 0)), ())
        self.assertEqual(least_pile(machine=((((), 0), ((), 1)), ((0, (0, 0), 1),), (1,)), control=()), ())

    def test_none_where_there_is_none(self):
        for control in ((1, 0, 0), (2, -5), (9,), ()):
            self.assertIsNone(least_pile(MACHINE, control))
        self.assertIsNone(least_pile(((), (), ()), ()))
        self.assertIsNone(least_pile(((((), 0),), ((0, (0, 0), 1), (1, (0, 0), 0)), (2,)), ()))

    def test_rings_are_left_as_soon_as_can_be(self):
        edges = ((0, (0, 0), 0), (0, (0, 0), 1), (1, (0, 0), 0), (1, (5, 5), 2), (2, (0, 0), 2))
        self.assertEqual(least_pile(((((), 0),), edges, (2,)), ()), ((0, 0), (5, 5)))

    def test_long_piles(self):
        edges = tuple((state, (0, 0), state + 1) for state in range(3000))
        self.assertEqual(least_pile(((((), 0),), edges, (3000,)), ()), ((0, 0),) * 3000)

    def test_machines_by_chance(self):
        chance = random.Random(4)
        for count in range(400):
            machine = some_machine(chance)
            for control in ((0,), (1,), (2,), (3,)):
                found = read_piles(machine, control, 4)
                self.assertEqual(least_pile(machine, control), found[0] if found else None)


if __name__ == "__main__":
    unittest.main()
