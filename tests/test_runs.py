"""Runs: the stands they lead to, whether they fault, and their turns put together."""

import copy
import random
import unittest

from fewturnsover.errors import NoProgram, NoRun
from fewturnsover.runs import is_faulty, put_together, stands_of
from fewturnsover.stands import fault_at, first_stand, steps
from fewturnsover.walker import Walker
from tests.reference import faulty_of, many_walks
from tests.samples import BACK, DEEP, FAULT, RICH, TWO, anything, never, of_hands, one_hand

FAULTY = [(0, [0, 2, None]), (1, [1, None])]


def parted(chance, path):
    """A run of the path's steps, its turns parted by chance, and how many steps lie ahead of each turn's end."""
    run, ends = [], []
    for at, (hand, choice) in enumerate(path):
        if run and run[-1][0] == hand and chance.random() < 0.6:
            run[-1][1].append(choice)
            ends[-1] = at + 1
        else:
            run.append((hand, [choice]))
            ends.append(at + 1)
    return run, ends


class StandsOf(unittest.TestCase):
    def test_no_turns(self):
        self.assertEqual(stands_of(TWO, []), [first_stand(TWO)])
        self.assertEqual(stands_of(program=RICH, run=[]), [first_stand(RICH)])

    def test_parted_in_several_ways(self):
        end = ((1, 1, 1), (((), ((0, 3),)), ((), ((0, 0),))))
        ways = [
            ([(0, [0, 2, None])], [end]),
            ([(0, [0]), (0, [2, None])], [((0, 1, 1), (((), ((0, 1),)), ((), ((0, 0),)))), end]),
            ([(0, [0, 2]), (0, [None])], [((0, 1, 1), (((), ((0, 2),)), ((), ((0, 0),)))), end]),
        ]
        for run, wanted in ways:
            self.assertEqual(stands_of(TWO, run), [first_stand(TWO)] + wanted)

    def test_two_hands(self):
        self.assertEqual(stands_of(TWO, FAULTY), [
            first_stand(TWO),
            ((1, 1, 1), (((), ((0, 3),)), ((), ((0, 0),)))),
            ((1, 1, 1), (((), ((0, 3),)), ((), ((0, 2),)))),
        ])

    def test_a_run_leads_row_by_row_to_what_it_tells(self):
        chance = random.Random(9)
        for program, path, stands in many_walks(9, 80):
            for count in range(3):
                run, ends = parted(chance, path)
                self.assertEqual(stands_of(program, run), [stands[0]] + [stands[end] for end in ends])

    def test_by_the_steps_that_are_told(self):
        for program, path, stands in many_walks(10, 40):
            stand = first_stand(program)
            for hand, choice in path:
                stand = dict(steps(program, stand, hand))[choice]
            self.assertEqual(stands_of(program, [(hand, [choice]) for hand, choice in path])[-1], stand)

    def test_a_walkers_turns_are_a_run(self):
        for program, path, stands in many_walks(11, 40):
            walker = Walker(program)
            for hand, choice in path:
                walker.step(hand, choice=choice)
            self.assertEqual(stands_of(program, walker.turns())[-1], walker.stand())

    def test_more_than_a_hundred_deep(self):
        for deep in (98, 99, 100, 101, 5000):
            told = stands_of(DEEP, [(0, [1, None] * deep), (0, [3])])
            self.assertEqual(told[1], ((1,), (((), ((0, 0),) + ((0, 2),) * deep),)))
            self.assertEqual(told[2], ((1,), (((), ((0, 3),) + ((0, 2),) * deep),)))
            self.assertEqual(len(told), 3)

    def test_one_hand_at_a_fault_leaves_the_others_to_go_on(self):
        program = of_hands([[FAULT]], [[BACK]])
        self.assertEqual(stands_of(program, [(1, [None])])[-1], ((1, 1), (((), ((0, 0),)), ((), ()))))

    def test_told_lists_are_new_ones_and_what_is_handed_in_stays(self):
        run = copy.deepcopy(FAULTY)
        told = stands_of(TWO, run)
        wanted = list(told)
        told.clear()
        self.assertEqual(stands_of(TWO, run), wanted)
        self.assertEqual(run, FAULTY)


class NoRuns(unittest.TestCase):
    def refuses(self, run, number, at, program=TWO):
        with self.assertRaises(NoRun) as caught:
            stands_of(program, run)
        self.assertEqual((caught.exception.number, caught.exception.at), (number, at))
        self.assertIs(is_faulty(program, run), False)

    def test_no_list(self):
        for thing in anything():
            if not isinstance(thing, list):
                self.refuses(thing, None, None)
        self.refuses(tuple(FAULTY), None, None)

    def test_lists_of_every_kind(self):
        for thing in anything():
            if isinstance(thing, list) and thing:
                self.refuses(thing, 0, None)

    def test_a_turn_that_is_none(self):
        for thing in anything() + [(0, [0], 0), ([0], 0), [0, [0]], (0,), ((0, [0]),)]:
            self.refuses([thing], 0, None)
            self.refuses([(0, [0, 2]), (0, [None]), thing, (9, [])], 2, None)

    def test_a_hand_that_is_none(self):
        for thing in never() + [2, 3, 10 ** 29, "a", "handa", (), (0,)]:
            self.refuses([(thing, [0])], 0, None)
            self.refuses([(0, [0]), (thing, [0])], 1, None)

    def test_choices_that_are_no_list_or_empty(self):
        for thing in anything():
            if not isinstance(thing, list) or not thing:
                self.refuses([(0, thing)], 0, None)
                self.refuses([(0, [0]), (1, thing)], 1, None)
        self.refuses([(0, (0,))], 0, None)

    def test_a_choice_that_is_none_there(self):
        for thing in never() + [3, 4, 10 ** 29, "a", (), (0,)]:
            self.refuses([(0, [thing])], 0, 0)
            self.refuses([(0, [thing, 0])], 0, 0)
            self.refuses([(1, [0]), (0, [1, 0, thing])], 1, 2)
        for thing in never() + [1, 3]:
            self.refuses([(0, [0, thing])], 0, 1)
        for thing in anything():
            if thing is not None:
                self.refuses([(0, [0, 2, thing])], 0, 2)

    def test_where_there_is_no_step(self):
        for thing in anything():
            self.refuses([(0, [0]), (1, [1, thing])], 1, 1)
            self.refuses(FAULTY + [(0, [None]), (1, [thing])], 3, 0)
            self.refuses(FAULTY + [(0, [None, thing])], 2, 1)
            self.refuses([(1, [thing])], 0, 0, of_hands([[("begin", "handb")]], [[BACK]]))

    def test_the_first_turn_in_order_is_told(self):
        self.refuses([(0, [0, 1]), None], 0, 1)
        self.refuses([(0, [0]), (5, [0]), (0, [9])], 1, None)
        self.refuses([(0, [0, 9, 9]), (0, [9])], 0, 1)

    def test_what_is_no_program_is_refused_first(self):
        for thing in anything():
            for run in (FAULTY, [], None):
                with self.assertRaises(NoProgram):
                    stands_of(thing, run)
                with self.assertRaises(NoProgram):
                    is_faulty(thing, run)


class IsFaulty(unittest.TestCase):
    def test_runs(self):
        self.assertIs(is_faulty(TWO, FAULTY), True)
        self.assertIs(is_faulty(program=TWO, thing=FAULTY), True)
        self.assertIs(is_faulty(TWO, FAULTY[:1]), False)
        self.assertIs(is_faulty(TWO, []), False)
        self.assertIs(is_faulty(one_hand([FAULT]), []), True)
        self.assertIs(is_faulty(of_hands([[BACK]], [[FAULT]]), []), True)
        self.assertIs(is_faulty(TWO, FAULTY + [(0, [None])]), True)

    def test_things_of_every_kind(self):
        for thing in anything():
            self.assertIs(is_faulty(TWO, thing), False)
            # Of a program that faults at first the run of no turns is the only one of these that does.
            self.assertIs(is_faulty(one_hand([FAULT]), thing), isinstance(thing, list) and not thing)
            self.assertIs(is_faulty(TWO, FAULTY + [thing]), False)
            self.assertIs(is_faulty(TWO, FAULTY[:1] + [(1, [1, thing])]), thing is None)

    def test_at_the_end_alone(self):
        program = one_hand([("go", (1, 2)), BACK, FAULT])
        self.assertIs(is_faulty(program, [(0, [2])]), True)
        self.assertIs(is_faulty(program, [(0, [1])]), False)
        self.assertIs(is_faulty(program, [(0, [2, None])]), False)

    def test_more_than_a_hundred_deep(self):
        self.assertIs(is_faulty(DEEP, [(0, [1, None] * 300 + [3])]), True)
        self.assertIs(is_faulty(DEEP, [(0, [1, None] * 300)]), False)

    def test_along_walks(self):
        found = {}
        for program, path, stands in many_walks(12, 80):
            run = [(hand, [choice]) for hand, choice in path]
            for many in range(len(run) + 1):
                wanted = faulty_of(program, stands[many]) is not None
                found[wanted] = True
                self.assertIs(is_faulty(program, run[:many]), wanted)
                self.assertIs(fault_at(program, stands[many]) is not None, wanted)
        self.assertEqual(len(found), 2)

    def test_what_is_handed_in_stays(self):
        run = copy.deepcopy(FAULTY)
        is_faulty(TWO, run)
        self.assertEqual(run, FAULTY)


class PutTogether(unittest.TestCase):
    def test_turns_one_behind_the_other(self):
        run = [(0, [1]), (0, [2, None]), (1, [0]), (0, [3]), (1, [4]), (1, [None]), (1, [5, 6])]
        self.assertEqual(put_together(run), [(0, [1, 2, None]), (1, [0]), (0, [3]), (1, [4, None, 5, 6])])
        self.assertEqual(put_together(run=[]), [])
        self.assertEqual(put_together(run=[(2, [0])]), [(2, [0])])

    def test_what_is_put_together_already(self):
        run = [(0, [1, 2]), (1, [0]), (0, [3])]
        self.assertEqual(put_together(run), run)
        self.assertEqual(put_together(put_together(run)), run)

    def test_all_is_new_and_what_is_handed_in_stays(self):
        for run in ([(0, [1]), (0, [2]), (1, [0])], [(0, [1]), (1, [2])], []):
            before = copy.deepcopy(run)
            told = put_together(run)
            self.assertIsNot(told, run)
            for hand, choices in told:
                self.assertIs(type(choices), list)
                choices.append(9)
            told.append((9, [9]))
            self.assertEqual(run, before)

    def test_the_same_list_handed_in_twice(self):
        choices = [1, 2]
        self.assertEqual(put_together([(0, choices), (0, choices)]), [(0, [1, 2, 1, 2])])
        self.assertEqual(choices, [1, 2])

    def test_leads_to_the_same(self):
        chance = random.Random(13)
        for program, path, stands in many_walks(13, 60):
            run, ends = parted(chance, path)
            told = put_together(run)
            self.assertEqual([(hand, choice) for hand, choices in told for choice in choices], path)
            self.assertTrue(all(one[0] != other[0] for one, other in zip(told, told[1:])))
            self.assertEqual(stands_of(program, told)[-1], stands[-1])
            self.assertEqual(put_together([(hand, [choice]) for hand, choice in path]), told)


if __name__ == "__main__":
    unittest.main()
