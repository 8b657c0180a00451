"""Pairs that show that one machine reads within another, and what one alone reads."""

import random
import unittest

from fewturnsover.least import least
from fewturnsover.pairs import inside, lets_pairs
from tests.machining import all_piles, each_without, joined, living, machine_of, read_by, renumbered, states_in
from tests.samples import anything, never
from tests.test_machines import POINTS, some_machine

A, B, C = POINTS
EMPTY = ((), (), ())
ONE = machine_of([((0,), 0), ((1,), 2)], [(0, A, 1), (0, B, 0), (1, A, 2), (2, C, 2), (1, B, 7)], [2])


def shown_plainly(one, other, pairs, ahead=()):
    """Whether pairs show it, by the words."""
    alive = living(one)
    for control, state in one[0]:
        if state in alive and not any((ahead + control, partner) in other[0] for known, partner in pairs if known == state):
            return False
    for state, partner in pairs:
        if state in alive:
            if state in one[2] and partner not in other[2]:
                return False
            for known, point, onward in one[1]:
                if known == state and onward in alive:
                    found = {way for begin, by, way in other[1] if begin == partner and by == point}
                    if not any((onward, way) in pairs for way in found):
                        return False
    return True


def lengthened(machine, ahead):
    return machine_of([(ahead + control, state) for control, state in machine[0]], machine[1], machine[2])


def alone(one, other, ahead, most):
    """The first (control, pile) that one alone reads, piles to so many points."""
    for control in sorted({control for control, state in one[0]}):
        for pile in all_piles(POINTS, most):
            if read_by(one, control, pile) and not read_by(other, ahead + control, pile):
                return control, pile
    return None


def more_of(chance, machine):
    """The machine with something put in, so that it reads no less."""
    return joined(machine, renumbered_by_chance(chance, some_machine(chance)))


def renumbered_by_chance(chance, machine):
    states = states_in(machine)
    return renumbered(machine, dict(zip(states, chance.sample(range(9), len(states)))))


class Inside(unittest.TestCase):
    def tells(self, one, other, ahead=()):
        """Hold what is told against all piles; tell it."""
        told = inside(one, other, ahead=ahead)
        self.assertIsInstance(told, tuple)
        if told[0] == "pairs":
            self.assertEqual(len(told), 2)
            self.assertEqual(told[1], tuple(sorted(set(told[1]))))
            self.assertTrue(shown_plainly(one, least(other), told[1], ahead))
            self.assertIs(lets_pairs(one, least(other), told[1], ahead=ahead), True)
            self.assertIsNone(alone(one, other, ahead, 4))
        else:
            self.assertEqual(told[0], "only")
            self.assertEqual(told[1:], alone(one, other, ahead, len(told[2])))
        return told

    def test_the_same(self):
        self.assertEqual(self.tells(ONE, ONE)[0], "pairs")
        self.assertEqual(self.tells(ONE, least(ONE))[0], "pairs")
        self.assertEqual(self.tells(least(ONE), ONE)[0], "pairs")

    def test_nothing_read(self):
        for nothing in (EMPTY, (((0,), 0),) and ((((0,), 0),), ((0, A, 1),), ()), ((), (), (0,))):
            self.assertEqual(inside(nothing, ONE), ("pairs", ()))
            self.assertEqual(inside(nothing, EMPTY), ("pairs", ()))
            self.assertEqual(inside(ONE, nothing), ("only", (0,), (A, A)))

    def test_but_for_one_edge_end_or_begin(self):
        for less in each_without(ONE):
            self.assertEqual(self.tells(less, ONE)[0], "pairs")
        without = machine_of(ONE[0], set(ONE[1]) - {(0, B, 0)}, ONE[2])
        self.assertEqual(self.tells(ONE, without), ("only", (0,), (B, A, A)))
        without = machine_of(ONE[0], set(ONE[1]) - {(2, C, 2)}, ONE[2])
        self.assertEqual(self.tells(ONE, without), ("only", (0,), (A, A, C)))
        self.assertEqual(self.tells(ONE, (ONE[0], ONE[1], ())), ("only", (0,), (A, A)))
        self.assertEqual(self.tells(ONE, (ONE[0][:1],) + ONE[1:]), ("only", (1,), ()))
        self.assertEqual(self.tells(ONE, (ONE[0][1:],) + ONE[1:]), ("only", (0,), (A, A)))
        # The edge to a state from which no end can be come to is as good as none.
        self.assertEqual(self.tells(ONE, machine_of(ONE[0], set(ONE[1]) - {(1, B, 7)}, ONE[2]))[0], "pairs")

    def test_numbers_ahead(self):
        for ahead in ((5,), (1, 0), (0, 1, 2), (-1,)):
            self.assertEqual(self.tells(ONE, lengthened(ONE, ahead), ahead)[0], "pairs")
            self.assertEqual(self.tells(ONE, ONE, ahead), ("only", (0,), (A, A)))
            less = lengthened((ONE[0][:1],) + ONE[1:], ahead)
            self.assertEqual(self.tells(ONE, less, ahead), ("only", (1,), ()))
        self.assertEqual(inside(one=ONE, other=lengthened(ONE, (1,)), ahead=(1,))[0], "pairs")

    def test_ahead_by_its_name_alone(self):
        with self.assertRaises(TypeError):
            inside(ONE, ONE, ())
        with self.assertRaises(TypeError):
            lets_pairs(ONE, ONE, (), ())

    def test_several_edges_by_one_point(self):
        one = machine_of([((), 0)], [(0, A, 1), (1, B, 2), (1, C, 2)], [2])
        other = machine_of([((), 0)], [(0, A, 1), (0, A, 3), (1, B, 2), (3, C, 2)], [2])
        self.assertEqual(self.tells(one, other)[0], "pairs")
        self.assertEqual(self.tells(other, one)[0], "pairs")

    def test_machines_by_chance(self):
        chance = random.Random(12)
        kinds = {"pairs": 0, "only": 0}
        for count in range(300):
            one, other = some_machine(chance), some_machine(chance)
            ahead = chance.choice([(), (), (1,), (0, 2)])
            for small, great in ((one, other), (one, joined(one, other)), (one, more_of(chance, one))):
                kinds[self.tells(small, lengthened(great, ahead), ahead)[0]] += 1
        self.assertGreater(min(kinds.values()), 100)


class LetsPairs(unittest.TestCase):
    small = least(ONE)
    pairs = inside(ONE, ONE)[1]

    def lets(self, wanted, thing, one=ONE, other=None, **more):
        self.assertIs(lets_pairs(one, self.small if other is None else other, thing, **more), wanted)

    def test_those_told(self):
        self.lets(True, self.pairs)
        self.assertIs(lets_pairs(one=ONE, other=self.small, thing=self.pairs, ahead=()), True)

    def test_each_one_left_out(self):
        for at in range(len(self.pairs)):
            self.lets(False, self.pairs[:at] + self.pairs[at + 1:])

    def test_in_another_order_and_twice(self):
        chance = random.Random(1)
        for count in range(10):
            mixed = list(self.pairs * 2)
            chance.shuffle(mixed)
            self.lets(True, tuple(mixed))

    def test_states_that_are_not_there(self):
        self.lets(True, self.pairs + ((99, 0), (99, 99), (50, 1)))
        # A state with an end ahead of it needs a partner that is there.
        self.lets(False, self.pairs + ((0, 99),))
        # From 7 no end can be come to: of it nothing is asked.
        self.lets(True, self.pairs + ((7, 0), (7, 99)))

    def test_all_pairs_and_none(self):
        states = states_in(ONE)
        every = tuple((one, other) for one in states for other in states_in(self.small))
        self.lets(False, every)
        self.lets(False, ())
        self.lets(True, (), one=EMPTY)
        self.lets(True, (), one=EMPTY, other=EMPTY)
        self.lets(True, ((0, 0), (5, 5)), one=EMPTY, other=EMPTY)
        self.lets(True, (), one=((((0,), 0),), ((0, A, 1),), ()))
        self.lets(False, every, other=EMPTY)

    def test_things_of_every_kind(self):
        for thing in anything():
            self.lets(False, thing)
        for thing in never():
            self.lets(False, (thing,) + self.pairs)
            self.lets(False, ((0, thing),) + self.pairs)
            self.lets(False, ((thing, 0),) + self.pairs)
            self.lets(False, (thing,), one=EMPTY)
            self.lets(False, thing, one=EMPTY)
            self.lets(False, ((99, thing),), one=EMPTY)

    def test_other_forms(self):
        self.lets(False, list(self.pairs))
        for at, (one, other) in enumerate(self.pairs):
            for thing in ([one, other], (one,), (one, other, 0), (one, -1), (-1, other), (one, None), (bool(one), other), (one, True)):
                self.lets(False, self.pairs[:at] + (thing,) + self.pairs[at + 1:])
                self.lets(False, self.pairs + (thing,))

    def test_numbers_ahead(self):
        for ahead in ((5,), (1, 0, 3)):
            self.lets(True, self.pairs, other=lengthened(self.small, ahead), ahead=ahead)
            self.lets(False, self.pairs, other=lengthened(self.small, ahead))
            self.lets(False, self.pairs, ahead=ahead)

    def test_several_partners(self):
        one = machine_of([((), 0)], [(0, A, 1)], [1])
        other = machine_of([((), 0), ((), 1)], [(0, A, 2), (1, A, 3), (1, A, 4)], [3])
        self.lets(True, ((0, 1), (1, 3)), one=one, other=other)
        self.lets(False, ((0, 1), (1, 4)), one=one, other=other)
        self.lets(False, ((0, 0), (1, 2)), one=one, other=other)
        self.lets(False, ((0, 1), (1, 3), (1, 4)), one=one, other=other)
        self.lets(False, ((0, 0), (0, 1), (1, 3)), one=one, other=other)
        self.lets(False, ((0, 2), (1, 3)), one=one, other=other)

    def test_pairs_by_chance(self):
        chance = random.Random(13)
        kinds = {True: 0, False: 0}
        for count in range(400):
            one = some_machine(chance)
            other = chance.choice([one, some_machine(chance), joined(one, some_machine(chance))])
            every = [(a, b) for a in states_in(one) + [8] for b in states_in(other) + [9]]
            some = {pair for pair in every if chance.random() < 0.6} | {(state, state) for state in states_in(one)}
            told = inside(one, other)
            for pairs, against in ((tuple(some), other), (tuple((a, a) for a in states_in(one)), other),
                                   (told[1] if told[0] == "pairs" else (), least(other))):
                wanted = shown_plainly(one, against, pairs)
                kinds[wanted] += 1
                self.lets(wanted, pairs, one=one, other=against)
                if wanted:
                    self.assertIsNone(alone(one, against, (), 3))
        self.assertGreater(min(kinds.values()), 100)

    def test_what_is_handed_in_stays(self):
        thing = [(0, 0), [1, 1]]
        self.lets(False, thing)
        self.assertEqual(thing, [(0, 0), [1, 1]])


if __name__ == "__main__":
    unittest.main()
