"""Walkers."""

import unittest

from fewturnsover.errors import Bare, NoChoice, NoHand, NoProgram
from fewturnsover.stands import first_stand, is_stand, steps
from fewturnsover.walker import Walker
from tests.reference import many_walks, steps_of
from tests.samples import BACK, DEEP, FAULT, RICH, TWO, anything, never, of_hands, one_hand


def walked(program, path):
    walker = Walker(program)
    for hand, choice in path:
        walker.step(hand, choice=choice)
    return walker


class Making(unittest.TestCase):
    def test_at_first(self):
        walker = Walker(program=RICH)
        self.assertEqual(walker.stand(), first_stand(RICH))
        self.assertEqual(walker.turns(), [])
        self.assertEqual(len(walker), 0)

    def test_what_is_no_program_is_refused(self):
        for thing in anything():
            with self.assertRaises(NoProgram):
                Walker(thing)
        with self.assertRaises(NoProgram) as caught:
            Walker(one_hand([BACK, None]))
        self.assertEqual((caught.exception.hand, caught.exception.text, caught.exception.row), (0, 0, 1))

    def test_methods_stand_in_the_class_itself(self):
        for name in ("step", "back", "stand", "turns", "twin", "__eq__", "__len__"):
            self.assertIn(name, vars(Walker))


class Stepping(unittest.TestCase):
    def refuses(self, walker, hand, choice):
        before = walker.stand(), walker.turns(), len(walker)
        with self.assertRaises(NoChoice) as caught:
            walker.step(hand, choice=choice)
        self.assertIs(caught.exception.choice, choice)
        self.assertEqual((walker.stand(), walker.turns(), len(walker)), before)

    def test_steps_by_choices(self):
        walker = Walker(TWO)
        self.assertIsNone(walker.step(0, choice=2))
        self.assertEqual(walker.stand(), ((2, 1, 1), (((), ((0, 1),)), ((), ((0, 0),)))))
        walker.step(hand=1, choice=1)
        self.assertEqual(walker.stand(), ((2, 1, 1), (((), ((0, 1),)), ((), ((0, 1),)))))
        walker.step(0, choice=2)
        walker.step(0)
        self.assertEqual(walker.stand(), ((0, 1, 1), (((), ((0, 3),)), ((), ((0, 1),)))))
        walker.step(0, choice=None)
        self.assertEqual(walker.stand(), ((0, 1, 1), (((), ()), ((), ((0, 1),)))))
        self.assertEqual(len(walker), 5)

    def test_choices_that_are_none(self):
        walker = Walker(TWO)
        for thing in never() + [3, 4, 10 ** 29, "a", (), (0,)]:
            self.refuses(walker, 0, thing)
        walker.step(0, choice=0)
        for thing in never() + [1, 3, 10 ** 29, "a", (), (0,)]:
            self.refuses(walker, 0, thing)
        walker.step(0, choice=2)
        for thing in anything():
            if thing is not None:
                self.refuses(walker, 0, thing)

    def test_truths_are_no_choices(self):
        self.refuses(Walker(TWO), 0, False)
        self.refuses(Walker(TWO), 0, True)
        self.refuses(Walker(TWO), 1, True)
        self.refuses(Walker(TWO), 1, False)

    def test_a_choice_that_may_not_be_left_out(self):
        self.refuses(Walker(TWO), 0, None)
        self.refuses(Walker(TWO), 1, None)

    def test_no_choice_where_there_is_no_step(self):
        walker = walked(TWO, [(1, 1)])
        for thing in anything():
            self.refuses(walker, 1, thing)
        over = walked(one_hand([BACK]), [(0, None)])
        fault = Walker(one_hand([FAULT]))
        not_begun = Walker(of_hands([[("begin", "handb")]], [[BACK]]))
        for thing in (None, 0, 1):
            self.refuses(over, 0, thing)
            self.refuses(fault, 0, thing)
            self.refuses(not_begun, 1, thing)

    def test_hands_that_are_none(self):
        walker = Walker(TWO)
        for thing in never() + [2, 3, 10 ** 29, "handa", (), (0,)]:
            with self.assertRaises(NoHand) as caught:
                walker.step(thing, choice=0)
            self.assertIs(caught.exception.hand, thing)
            with self.assertRaises(NoHand):
                walker.step(thing, choice=[])
        self.assertEqual(walker, Walker(TWO))

    def test_choice_is_handed_in_by_name_alone(self):
        with self.assertRaises(TypeError):
            Walker(TWO).step(0, 1)

    def test_along_walks(self):
        for program, path, stands in many_walks(6, 100):
            walker = Walker(program)
            for (hand, choice), stand in zip(path, stands[1:]):
                self.assertIn((choice, stand), steps(program, walker.stand(), hand))
                walker.step(hand, choice=choice)
                self.assertEqual(walker.stand(), stand)


class Back(unittest.TestCase):
    def test_to_the_first_stand_and_once_more(self):
        for program, path, stands in many_walks(7, 60):
            walker = walked(program, path)
            for many in range(len(path), 0, -1):
                self.assertEqual(len(walker), many)
                self.assertEqual(walker.stand(), stands[many])
                self.assertIsNone(walker.back())
            self.assertEqual(walker.stand(), stands[0])
            for count in range(2):
                with self.assertRaises(Bare):
                    walker.back()
            self.assertEqual(walker, Walker(program))

    def test_on_another_way(self):
        walker = walked(TWO, [(0, 1), (1, 1)])
        walker.back()
        walker.step(1, choice=0)
        self.assertEqual(walker.turns(), [(0, [1]), (1, [0])])
        self.assertEqual(walker.stand(), ((1, 1, 1), (((), ((0, 1),)), ((), ((0, 0),)))))

    def test_a_begun_hand_is_there_no_more(self):
        program = of_hands([[("begin", "handb")]], [[BACK]])
        walker = walked(program, [(0, None), (1, None)])
        walker.back()
        walker.back()
        self.assertEqual(walker.stand(), first_stand(program))


class Turns(unittest.TestCase):
    def test_hands_in_and_out_of_turn(self):
        path = [(1, 0), (0, 2), (0, 0), (0, 1), (1, 0), (1, 1), (0, 2), (1, None)]
        walker = walked(TWO, path)
        self.assertEqual(walker.turns(), [(1, [0]), (0, [2, 0, 1]), (1, [0, 1]), (0, [2]), (1, [None])])
        for turn in walker.turns():
            self.assertIs(type(turn), tuple)
            self.assertIs(type(turn[1]), list)

    def test_one_hand_has_one_turn(self):
        self.assertEqual(walked(DEEP, [(0, 1), (0, None), (0, 3)]).turns(), [(0, [1, None, 3])])

    def test_told_lists_are_new_ones(self):
        walker = walked(TWO, [(0, 2), (0, 0), (1, 0)])
        told = walker.turns()
        told[0][1].append(9)
        told.pop()
        self.assertEqual(walker.turns(), [(0, [2, 0]), (1, [0])])
        walker.step(1, choice=0)
        self.assertEqual(walker.turns(), [(0, [2, 0]), (1, [0, 0])])


class Twins(unittest.TestCase):
    def test_a_twin_is_alike_and_goes_on_by_itself(self):
        walker = walked(TWO, [(0, 2), (1, 0)])
        twin = walker.twin()
        self.assertIs(type(twin), Walker)
        self.assertIsNot(twin, walker)
        self.assertEqual(twin, walker)
        self.assertEqual(twin.stand(), walker.stand())
        twin.step(0, choice=2)
        self.assertEqual((len(twin), len(walker)), (3, 2))
        self.assertNotEqual(twin, walker)
        self.assertEqual(walker.turns(), [(0, [2]), (1, [0])])
        walker.back()
        walker.back()
        self.assertEqual(twin.turns(), [(0, [2]), (1, [0]), (0, [2])])
        self.assertEqual(twin.stand(), ((2, 1, 1), (((), ((0, 2),)), ((), ((0, 0),)))))
        self.assertEqual(walker.stand(), first_stand(TWO))
        for count in range(3):
            twin.back()
        self.assertEqual(twin, walker)
        with self.assertRaises(Bare):
            twin.back()


class Alike(unittest.TestCase):
    def alike(self, one, other, wanted):
        for first, second in ((one, other), (other, one)):
            self.assertIs(first == second, wanted)
            self.assertIs(first != second, not wanted)

    def test_by_program_and_steps(self):
        self.alike(Walker(TWO), Walker(TWO), True)
        self.alike(Walker(TWO), Walker((TWO[0], TWO[1] + ())), True)
        self.alike(walked(TWO, [(0, 1), (1, 0)]), walked(TWO, [(0, 1), (1, 0)]), True)

    def test_unlike_programs(self):
        self.alike(Walker(TWO), Walker(RICH), False)
        self.alike(Walker(one_hand([BACK, BACK])), Walker(one_hand([BACK, FAULT])), False)
        self.alike(walked(one_hand([BACK, BACK]), [(0, None)]), walked(one_hand([BACK]), [(0, None)]), False)

    def test_unlike_steps_to_one_stand(self):
        one, other = walked(TWO, [(0, 1), (1, 1)]), walked(TWO, [(1, 1), (0, 1)])
        self.assertEqual(one.stand(), other.stand())
        self.alike(one, other, False)
        self.alike(walked(TWO, [(1, 0)]), Walker(TWO), False)
        self.alike(walked(TWO, [(0, 1)]), walked(TWO, [(0, 2)]), False)

    def test_taken_back(self):
        walker = walked(TWO, [(0, 1), (1, 1)])
        walker.back()
        self.alike(walker, walked(TWO, [(0, 1)]), True)

    def test_like_nothing_else(self):
        walker = walked(TWO, [(0, 1)])
        for thing in [None, True, 0, 1, "", "a", [], [(0, [1])], (), {}, object(), TWO, walker.stand(), walker.turns(), Walker]:
            self.alike(walker, thing, False)
            self.assertIs(Walker(TWO) == thing, False)


class Deep(unittest.TestCase):
    def test_more_than_a_hundred_deep(self):
        walker = Walker(DEEP)
        for deep in range(2, 250):
            walker.step(0, choice=1)
            walker.step(0)
            pile = ((0, 0),) + ((0, 2),) * (deep - 1)
            self.assertEqual(walker.stand(), ((1,), (((), pile),)))
            self.assertIs(is_stand(DEEP, walker.stand()), deep <= 100)
        walker.step(0, choice=3)
        with self.assertRaises(NoChoice):
            walker.step(0)
        walker.back()
        for deep in range(249, 1, -1):
            self.assertEqual(walker.stand(), ((1,), (((), ((0, 0),) + ((0, 2),) * (deep - 1)),)))
            walker.back()
            walker.back()
        self.assertEqual(walker.stand(), first_stand(DEEP))

    def test_thousands_deep_and_out_again(self):
        program = one_hand([("go", (1, 2)), ("call", "top"), BACK])
        walker = Walker(program)
        for count in range(20000):
            walker.step(0, choice=1)
            walker.step(0)
        self.assertEqual(walker.stand()[1][0][1], ((0, 0),) + ((0, 2),) * 20000)
        twin = walker.twin()
        walker.step(0, choice=2)
        for count in range(20001):
            walker.step(0)
        self.assertEqual(walker.stand(), ((1,), (((), ()),)))
        self.assertEqual(len(walker), 60002)
        self.assertEqual(len(twin.stand()[1][0][1]), 20001)

    def test_all_rows_beyond_a_hundred(self):
        for program, path, stands in many_walks(8, 25, 400):
            walker = Walker(program)
            for (hand, choice), before, stand in zip(path, stands, stands[1:]):
                for other in range(len(program[1])):
                    told = [known for known, there in steps_of(program, before, other)]
                    for thing in (None, 0, 1, 2, 3, 7):
                        twin_steps = thing in told
                        self.assertIs(self.can_step(walker, other, thing), twin_steps)
                walker.step(hand, choice=choice)
                self.assertEqual(walker.stand(), stand)

    def can_step(self, walker, hand, choice):
        try:
            walker.step(hand, choice=choice)
        except NoChoice:
            return False
        walker.back()
        return True


if __name__ == "__main__":
    unittest.main()
