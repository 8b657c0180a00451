"""Limits: what one is, made, less, covering, and runs within them."""

import unittest

from fewturnsover.errors import NoHand, NoLimit, NoProgram
from fewturnsover.limits import covers, is_limit, is_within, less, limit_of
from tests.samples import BACK, RICH, anything, never, of_hands, paths, replaced

TWO_HANDS = of_hands([[BACK]], [[BACK]])
ONE_HAND = of_hands([[BACK]])
NUMBERS = [None, 0, 1, 2, 7, 10 ** 29]


def wrong():
    """Things that are neither None nor whole numbers from 0 on."""
    return [thing for thing in never() if thing is not None] + [-1, -2, "1", (1,), [1], 1.0, True, False]


class IsLimit(unittest.TestCase):
    def lets(self, wanted, thing, program=RICH):
        self.assertIs(is_limit(program, thing), wanted)

    def test_limits(self):
        for many in NUMBERS:
            for each in NUMBERS:
                self.lets(True, (many, (each, None, 3)))
                self.lets(True, (many, (0, each, each)))
                self.lets(True, (each, (many,)), ONE_HAND)
        self.assertIs(is_limit(program=RICH, thing=(None, (None, None, None))), True)

    def test_other_lengths(self):
        for each in ((), (1,), (1, 1), (1, 1, 1, 1), (None,) * 4):
            self.lets(False, (1, each))
        for thing in ((), (1,), (1, (1, 1, 1), 1), ((1, 1, 1), 1), (1, 1, 1)):
            self.lets(False, thing)
        self.lets(False, (1, (1,)), TWO_HANDS)
        self.lets(True, (1, (1, 1)), TWO_HANDS)

    def test_things_of_every_kind(self):
        for thing in anything():
            self.lets(False, thing)
        for path in paths((2, (1, 0, 3))):
            for thing in wrong():
                self.lets(False, replaced((2, (1, 0, 3)), path, thing))
        self.lets(False, [1, (1, 1, 1)])
        self.lets(False, (1, [1, 1, 1]))
        self.lets(False, (None, None))
        self.lets(False, None)

    def test_no_program(self):
        for thing in anything():
            with self.assertRaises(NoProgram):
                is_limit(thing, (1, (1,)))
            with self.assertRaises(NoProgram):
                is_limit(thing, thing)


class LimitOf(unittest.TestCase):
    def test_each_the_same_for_all_hands(self):
        self.assertEqual(limit_of(RICH, 3), (3, (None, None, None)))
        self.assertEqual(limit_of(RICH, 0, each=0), (0, (0, 0, 0)))
        self.assertEqual(limit_of(ONE_HAND, None, each=2), (None, (2,)))
        self.assertEqual(limit_of(program=TWO_HANDS, many=5, each=None), (5, (None, None)))
        for many in NUMBERS:
            for each in NUMBERS:
                self.assertIs(is_limit(RICH, limit_of(RICH, many, each=each)), True)

    def test_each_by_its_name_alone(self):
        with self.assertRaises(TypeError):
            limit_of(RICH, 1, 1)

    def test_refusals(self):
        for thing in anything():
            with self.assertRaises(NoProgram):
                limit_of(thing, thing, each=thing)
        for thing in wrong() + [(), (1, 1), (1, (1, 1, 1))]:
            with self.assertRaises(NoLimit):
                limit_of(RICH, thing)
            with self.assertRaises(NoLimit):
                limit_of(RICH, 1, each=thing)
            with self.assertRaises(NoLimit):
                limit_of(RICH, thing, each=thing)


class Less(unittest.TestCase):
    def test_one_less_of_all_and_of_the_hands(self):
        self.assertEqual(less((3, (2, 5)), 0), (2, (1, 5)))
        self.assertEqual(less((3, (2, 5)), 1), (2, (2, 4)))
        self.assertEqual(less(limit=(1, (1,)), hand=0), (0, (0,)))

    def test_never_below_nought_and_none_stays(self):
        self.assertEqual(less((0, (0, 1)), 0), (0, (0, 1)))
        self.assertEqual(less((None, (None, 1)), 0), (None, (None, 1)))
        self.assertEqual(less((None, (None, 1)), 1), (None, (None, 0)))
        self.assertEqual(less((2, (None, 0, 4)), 1), (1, (None, 0, 4)))
        self.assertEqual(less((0, (None, 3, 4)), 2), (0, (None, 3, 3)))

    def test_hands_that_are_none(self):
        for limit in ((2, (1, 1)), (None, (None, None)), (0, (0, 0))):
            for thing in never() + [2, 3, -2, 10 ** 29, "0", (), (0,), (0, 1), 1.0]:
                with self.assertRaises(NoHand) as caught:
                    less(limit, thing)
                self.assertIs(caught.exception.hand, thing)


class Covers(unittest.TestCase):
    def test_numbers(self):
        for one in NUMBERS:
            for other in NUMBERS:
                wanted = one is None or other is not None and one >= other
                self.assertIs(covers((one, (3,)), (other, (3,))), wanted)
                self.assertIs(covers((3, (one,)), (3, (other,))), wanted)
                self.assertIs(covers((None, (None, one)), (None, (0, other))), wanted)
                self.assertIs(covers((one, (other,)), (other, (one,))), wanted and (other is None or one is not None and other >= one))

    def test_none_on_each_side(self):
        self.assertIs(covers(one=(None, (None, None)), other=(None, (None, None))), True)
        self.assertIs(covers((None, (None, None)), (5, (0, None))), True)
        self.assertIs(covers((5, (None, None)), (None, (None, None))), False)
        self.assertIs(covers((5, (None, 2)), (5, (None, None))), False)
        self.assertIs(covers((5, (1, 2)), (5, (1, 3))), False)
        self.assertIs(covers((5, (1, 2)), (5, (2, 1))), False)
        self.assertIs(covers((4, (2, 2)), (5, (2, 2))), False)


class IsWithin(unittest.TestCase):
    three = [(0, [None]), (1, [2, None]), (0, [None])]

    def test_turns_in_all(self):
        for many in range(6):
            self.assertIs(is_within((many, (None, None)), self.three), many >= 3)
        self.assertIs(is_within(limit=(None, (None, None)), run=self.three), True)
        self.assertIs(is_within((0, (0, 0)), []), True)

    def test_turns_of_each_hand(self):
        for many in range(4):
            self.assertIs(is_within((9, (many, None)), self.three), many >= 2)
            self.assertIs(is_within((None, (None, many)), self.three), many >= 1)
        self.assertIs(is_within((3, (2, 1)), self.three), True)
        self.assertIs(is_within((3, (1, 2)), self.three), False)

    def test_turns_one_behind_the_other_are_one(self):
        run = [(0, [None]), (0, [1]), (0, [None]), (1, [None]), (1, [None])]
        self.assertIs(is_within((2, (1, 1)), run), True)
        self.assertIs(is_within((1, (1, 1)), run), False)
        self.assertIs(is_within((2, (1, 0)), run), False)
        self.assertIs(is_within((2, (0, 1)), run), False)
        self.assertEqual(run, [(0, [None]), (0, [1]), (0, [None]), (1, [None]), (1, [None])])


if __name__ == "__main__":
    unittest.main()
