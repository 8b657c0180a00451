"""A hand's steps at a stand, and the hand that faults there."""

import unittest

from fewturnsover.errors import NoHand, NoProgram, NoStand
from fewturnsover.stands import fault_at, first_stand, is_stand, steps
from tests.reference import faulty_of, many_walks, steps_of
from tests.samples import BACK, FAULT, RICH, anything, never, of_hands, one_hand, replaced

BOXES = (("x", 4), ("y", 2))
OWN = (("a", 8), ("b", 3))


def single(row, rows=2):
    """A program of one hand with common and own boxes, the row first, and backs behind it."""
    return one_hand([row] + [BACK] * (rows - 1), OWN, BOXES)


def at(common, own, *pile):
    return (common + (1,), ((own, pile),))


class OneRow(unittest.TestCase):
    """Steps of one hand at its first row, from all values x 3, y 1, a 6, b 2."""

    common, own = (3, 1), (6, 2)

    def tells(self, row, *wanted, rows=2):
        """Each wanted one is (choice, common, own, pile)."""
        told = steps(single(row, rows), at(self.common, self.own, (0, 0), (0, 1)), 0)
        self.assertEqual(told, [(choice, at(common, own, *pile, (0, 1))) for choice, common, own, pile in wanted])
        for choice, stand in told:
            self.assertIs(is_stand(single(row, rows), stand), True)

    def test_to(self):
        self.tells(("set", "x", ("to", 0)), (None, (0, 1), self.own, [(0, 1)]))
        self.tells(("set", "x", ("to", 3)), (None, (3, 1), self.own, [(0, 1)]))
        self.tells(("set", "a", ("to", 7)), (None, self.common, (7, 2), [(0, 1)]))

    def test_of(self):
        self.tells(("set", "x", ("of", "y")), (None, (1, 1), self.own, [(0, 1)]))
        self.tells(("set", "x", ("of", "b")), (None, (2, 1), self.own, [(0, 1)]))
        self.tells(("set", "a", ("of", "x")), (None, self.common, (3, 2), [(0, 1)]))
        self.tells(("set", "a", ("of", "b")), (None, self.common, (2, 2), [(0, 1)]))

    def test_on(self):
        for many, value in ((1, 0), (2, 1), (3, 2)):
            self.tells(("set", "x", ("on", many)), (None, (value, 1), self.own, [(0, 1)]))
        for many, value in ((1, 7), (2, 0), (3, 1)):
            self.tells(("set", "a", ("on", many)), (None, self.common, (value, 2), [(0, 1)]))
        for many, value in ((1, 0), (2, 1), (3, 0)):
            self.tells(("set", "y", ("on", many)), (None, (3, value), self.own, [(0, 1)]))

    def test_on_where_the_size_is_one(self):
        program = one_hand([("set", "x", ("on", 3))], boxes=(("x", 1),))
        self.assertEqual(steps(program, first_stand(program), 0), [(None, ((0, 1), (((), ((0, 1),)),)))])

    def test_any(self):
        self.tells(("set", "x", ("any",)), *[(value, (value, 1), self.own, [(0, 1)]) for value in range(4)])
        self.tells(("set", "b", ("any",)), *[(value, self.common, (6, value), [(0, 1)]) for value in range(3)])

    def test_any_where_the_size_is_one(self):
        program = one_hand([("set", "x", ("any",))], own=(("x", 1),))
        self.assertEqual(steps(program, first_stand(program), 0), [(0, ((1,), (((0,), ((0, 1),)),)))])

    def test_if_both_ways(self):
        self.tells(("if", "x", 3, 5), (None, self.common, self.own, [(0, 5)]), rows=5)
        self.tells(("if", "x", 2, 5), (None, self.common, self.own, [(0, 1)]), rows=5)
        self.tells(("if", "b", 2, 0), (None, self.common, self.own, [(0, 0)]))
        self.tells(("if", "b", 0, 0), (None, self.common, self.own, [(0, 1)]))

    def test_go(self):
        self.tells(("go", (0, 2, 4, 5)), *[(way, self.common, self.own, [(0, way)]) for way in (0, 2, 4, 5)], rows=5)
        self.tells(("go", (1,)), (1, self.common, self.own, [(0, 1)]))

    def test_call(self):
        self.tells(("call", "top"), (None, self.common, self.own, [(0, 0), (0, 1)]))

    def test_back(self):
        self.tells(BACK, (None, self.common, self.own, []))

    def test_wait_both_ways(self):
        self.tells(("wait", "x", 3), (None, self.common, self.own, [(0, 1)]))
        self.tells(("wait", "x", 2))
        self.tells(("wait", "a", 6), (None, self.common, self.own, [(0, 1)]))
        self.tells(("wait", "a", 0))

    def test_fault(self):
        self.tells(FAULT)


class Piles(unittest.TestCase):
    program = of_hands([[("call", "b"), ("call", "c")], [BACK, BACK], [("set", "x", ("on", 1))]], boxes=(("x", 2),))

    def piles(self, *pile):
        told = steps(self.program, ((0, 1), (((), pile),)), 0)
        return [stand[1][0][1] for choice, stand in told]

    def test_what_is_called_lies_upon_the_pile(self):
        self.assertEqual(self.piles((0, 0)), [((1, 0), (0, 1))])
        self.assertEqual(self.piles((0, 1)), [((2, 0), (0, 2))])
        self.assertEqual(self.piles((0, 1), (1, 1), (2, 0)), [((2, 0), (0, 2), (1, 1), (2, 0))])

    def test_back_takes_the_first_point_away(self):
        self.assertEqual(self.piles((1, 0), (0, 1)), [((0, 1),)])
        self.assertEqual(self.piles((1, 1), (0, 1), (0, 1)), [((0, 1), (0, 1))])

    def test_back_at_a_texts_end(self):
        self.assertEqual(self.piles((0, 2), (1, 1)), [((1, 1),)])
        self.assertEqual(self.piles((2, 1), (0, 2)), [((0, 2),)])

    def test_back_at_the_last_point(self):
        self.assertEqual(self.piles((1, 0)), [()])
        self.assertEqual(self.piles((0, 2)), [()])
        self.assertEqual(steps(self.program, ((0, 1), (((), ((0, 2),)),)), 0), [(None, ((0, 1), (((), ()),)))])

    def test_none_where_it_is_over(self):
        self.assertEqual(steps(self.program, ((1, 1), (((), ()),)), 0), [])

    def test_a_step_may_lead_to_what_is_no_stand(self):
        told = steps(self.program, ((0, 1), (((), ((0, 0),) * 100),)), 0)
        self.assertEqual(told, [(None, ((0, 1), (((), ((1, 0), (0, 1)) + ((0, 0),) * 99),)))])
        self.assertIs(is_stand(self.program, told[0][1]), False)
        with self.assertRaises(NoStand):
            steps(self.program, told[0][1], 0)
        with self.assertRaises(NoStand):
            fault_at(self.program, told[0][1])
        self.assertEqual(self.piles(*[(0, 0)] * 99), [((1, 0), (0, 1)) + ((0, 0),) * 98])


class Begins(unittest.TestCase):
    program = (
        (("x", 2),),
        (
            ("one", (), (("top", (("begin", "two"), ("begin", "two"))),)),
            ("two", (("a", 2), ("b", 3)), (("top", (("set", "a", ("to", 1)),)),)),
            ("three", (), (("top", (("begin", "two"),)),)),
        ),
    )

    def test_one_that_was_not_begun(self):
        self.assertEqual(first_stand(self.program), ((0, 1, 0, 1), (((), ((0, 0),)), None, ((), ((0, 0),)))))
        begun = ((0, 1, 1, 1), (((), ((0, 1),)), ((0, 0), ((0, 0),)), ((), ((0, 0),))))
        self.assertEqual(steps(self.program, first_stand(self.program), 0), [(None, begun)])
        begun = ((0, 1, 1, 1), (((), ((0, 0),)), ((0, 0), ((0, 0),)), ((), ((0, 1),))))
        self.assertEqual(steps(self.program, first_stand(self.program), 2), [(None, begun)])

    def test_one_that_was_begun_is_left(self):
        for where in (((1, 2), ((0, 1), (0, 0))), ((1, 0), ()), ((0, 0), ((0, 0),))):
            stand = ((1, 1, 1, 1), (((), ((0, 1),)), where, ((), ((0, 0),))))
            behind = ((1, 1, 1, 1), (((), ((0, 2),)), where, ((), ((0, 0),))))
            self.assertEqual(steps(self.program, stand, 0), [(None, behind)])

    def test_none_where_it_is_not_begun(self):
        self.assertEqual(steps(self.program, first_stand(self.program), 1), [])

    def test_hands_that_are_begun_are_unlike_in_number(self):
        program = of_hands([[("begin", "handd")]], [[BACK]], [[("begin", "handa")]], [[BACK]])
        stand = ((0, 1, 1, 0), (None, ((), ((0, 0),)), ((), ((0, 0),)), None))
        behind = ((1, 1, 1, 0), (((), ((0, 0),)), ((), ((0, 0),)), ((), ((0, 1),)), None))
        self.assertEqual(steps(program, stand, 2), [(None, behind)])


class Steps(unittest.TestCase):
    def test_a_hand_leaves_the_others_alone(self):
        stand = ((1, 2, 0, 1, 1, 1), (((1, 7), ((1, 1), (0, 9))), ((3,), ((0, 0),)), ((), ((0, 0),))))
        self.assertEqual(steps(RICH, stand, 0), [(None, replaced(stand, (1, 0, 1), ((0, 9),)))])
        self.assertEqual(steps(RICH, stand, 1), [(None, replaced(replaced(stand, (0, 0), 0), (1, 1, 1), ((0, 1),)))])
        self.assertEqual(steps(RICH, stand, 2), [(None, replaced(stand, (1, 2, 1), ((0, 1),)))])

    def test_own_boxes_of_one_name_are_two(self):
        text = (("top", (("set", "a", ("on", 1)),)),)
        program = ((), (("one", (("a", 2),), text), ("two", (("b", 2), ("a", 8)), text)))
        stand = ((1, 1), (((1,), ((0, 0),)), ((1, 1), ((0, 0),))))
        self.assertEqual(steps(program, stand, 0), [(None, replaced(stand, (1, 0), ((0,), ((0, 1),))))])
        self.assertEqual(steps(program, stand, 1), [(None, replaced(stand, (1, 1), ((1, 2), ((0, 1),))))])

    def test_along_walks(self):
        for program, path, stands in many_walks(4, 150):
            for stand in stands:
                for hand in range(len(program[1])):
                    self.assertEqual(steps(program, stand, hand), steps_of(program, stand, hand))

    def test_by_names_and_told_anew(self):
        told = steps(program=RICH, stand=first_stand(RICH), hand=0)
        wanted = list(told)
        told.append(None)
        self.assertEqual(steps(RICH, first_stand(RICH), 0), wanted)

    def test_refusals(self):
        stand = first_stand(RICH)
        for thing in anything():
            with self.assertRaises(NoProgram):
                steps(thing, stand, 0)
            with self.assertRaises(NoStand):
                steps(RICH, thing, 0)
        for thing in never() + [3, 4, 10 ** 29, "a", "main", (), (0,)]:
            with self.assertRaises(NoHand) as caught:
                steps(RICH, stand, thing)
            self.assertIs(caught.exception.hand, thing)

    def test_the_order_of_refusals(self):
        with self.assertRaises(NoProgram):
            steps(None, None, None)
        with self.assertRaises(NoStand):
            steps(RICH, None, None)
        with self.assertRaises(NoStand):
            steps(RICH, first_stand(one_hand([BACK])), 7)


class FaultAt(unittest.TestCase):
    program = of_hands([[BACK, FAULT]], [[BACK, BACK], [FAULT]], [[FAULT, BACK]])

    def fault(self, *piles):
        hands = tuple(None if pile is None else ((), pile) for pile in piles)
        return fault_at(self.program, (tuple(0 if pile is None else 1 for pile in piles), hands))

    def test_no_hand(self):
        self.assertIsNone(self.fault(((0, 0),), ((0, 0),), ((0, 1),)))
        self.assertIsNone(self.fault(None, None, None))
        self.assertIsNone(self.fault((), (), ()))
        self.assertIsNone(self.fault(((0, 2),), ((1, 1),), ((0, 2),)))

    def test_the_first_point_alone_counts(self):
        self.assertIsNone(self.fault(((0, 0), (0, 1)), ((0, 0), (1, 0)), None))

    def test_one_hand(self):
        self.assertEqual(self.fault(((0, 1),), ((0, 0),), ((0, 1),)), 0)
        self.assertEqual(self.fault((), ((1, 0), (0, 1)), ()), 1)
        self.assertEqual(self.fault(None, None, ((0, 0),)), 2)

    def test_the_least_of_two(self):
        self.assertEqual(self.fault(((0, 0),), ((1, 0),), ((0, 0),)), 1)
        self.assertEqual(self.fault(((0, 1),), ((1, 0),), ((0, 0),)), 0)

    def test_along_walks(self):
        found = {}
        for program, path, stands in many_walks(5, 100):
            for stand in stands:
                found[fault_at(program, stand)] = True
                self.assertEqual(fault_at(program, stand), faulty_of(program, stand))
        self.assertLessEqual({None, 0, 1, 2}, set(found))

    def test_refusals(self):
        for thing in anything():
            with self.assertRaises(NoProgram):
                fault_at(thing, thing)
            with self.assertRaises(NoStand):
                fault_at(program=RICH, stand=thing)


if __name__ == "__main__":
    unittest.main()
