"""What is told of a program and a limit: a run of as few turns as can be that faults, or a book."""

import random
import unittest

from fewturnsover.books import lets_book
from fewturnsover.errors import NoLimit, NoProgram, TooMany
from fewturnsover.least import least
from fewturnsover.limits import is_within, less, limit_of
from fewturnsover.runs import is_faulty, put_together, stands_of
from fewturnsover.told import least_turns, told
from tests.reference import faulty_of, many_walks, some_walk
from tests.samples import BACK, DEEP, FAULT, RICH, TWO, anything, never, of_hands, one_hand
from tests.telling import faulty_programs, fewest_turns, some_limit
from tests.test_books import BEGUN, THREE

SAFE = of_hands([[("set", "x", ("on", 1)), ("call", "a")]], [[("wait", "x", 1), BACK, FAULT]], boxes=(("x", 2),))
# Each hand waits for what the other sets, so many times that the fault takes turns one behind the other.
TURNS = of_hands(
    [[("set", "x", ("to", 1)), ("wait", "x", 2), ("set", "x", ("to", 3)), ("wait", "x", 0), ("if", "y", 1, 6), BACK, FAULT]],
    [[("wait", "x", 1), ("set", "x", ("to", 2)), ("wait", "x", 3), ("set", "y", ("to", 1)), ("set", "x", ("to", 0))]],
    boxes=(("x", 4), ("y", 2)),
)
# A fault at the bottom of as many calls as steps of the other hand, whichever.
CALLS = of_hands(
    [[("go", (1, 2)), ("call", "a"), ("wait", "x", 1), ("set", "y", ("to", 1))]],
    [[("go", (1, 2)), ("call", "a"), ("set", "x", ("to", 1)), ("wait", "y", 1), FAULT]],
    boxes=(("x", 2), ("y", 2)),
)
# The first row of a hand that is begun faults.
BEGIN_FAULT = of_hands([[("wait", "x", 1), ("begin", "handb")]], [[FAULT]], [[("set", "x", ("to", 1))]], boxes=(("x", 2),))


class Told(unittest.TestCase):
    def tells(self, program, limit):
        """Hold what is told against what it has to be; tell the number of turns, or None of a book."""
        kind, thing = told(program, limit)
        self.assertIsInstance(thing, list)
        if kind == "book":
            self.assertIs(lets_book(program, limit, thing), True)
            self.assertEqual(thing[0][0], limit)
            self.each_once(program, thing)
            return None
        self.assertEqual(kind, "run")
        self.assertIs(is_faulty(program, thing), True)
        self.assertIsNotNone(faulty_of(program, stands_of(program, thing)[-1]))
        self.assertIs(is_within(limit, thing), True)
        self.assertEqual(put_together(thing), thing)
        if thing:
            fewer = (len(thing) - 1, limit[1])
            kind, book = told(program, fewer)
            self.assertEqual(kind, "book")
            self.assertIs(lets_book(program, fewer, book), True)
            self.assertIs(lets_book(program, limit, book), False)
        return len(thing)

    def each_once(self, program, book):
        """Entries are those that come: each once, with least machines, linked to in the order of turns."""
        keys = [entry[:4] for entry in book]
        self.assertEqual(len(set(keys)), len(keys))
        self.assertLessEqual(len(book), 400)
        linked = {0}
        for limit, common, machines, last, turns in book:
            for hand, turn in enumerate(turns):
                self.assertEqual(machines[hand] is None or machines[hand] == least(machines[hand]), True)
                may = machines[hand] is not None and hand != last and limit[0] != 0 and limit[1][hand] != 0
                self.assertIs(turn is not None, may)
                for known, number, pairs in turn[2] if turn else ():
                    linked.add(number)
                    self.assertEqual((book[number][0], book[number][1], book[number][3]), (less(limit, hand), known, hand))
        self.assertEqual(linked, set(range(len(book))))


class Ordinary(Told):
    def turns(self, program, wanted, most):
        for many in range(most):
            self.assertEqual(self.tells(program, limit_of(program, many)), wanted if wanted is not None and many >= wanted else None)
            found = least_turns(program, many)
            if wanted is not None and many >= wanted:
                self.assertEqual(found[0], wanted)
                self.assertEqual(len(found[1]), wanted)
                self.assertIs(is_faulty(program, found[1]), True)
                self.assertEqual(found[1], told(program, limit_of(program, many))[1])
            else:
                self.assertIsNone(found)

    def test_a_fault_at_first(self):
        program = of_hands([[BACK]], [[FAULT]])
        self.turns(program, 0, 3)
        self.assertEqual(told(program, limit_of(program, 2)), ("run", []))
        self.assertEqual(told(program, limit_of(program, 0, each=0)), ("run", []))
        self.assertEqual(least_turns(program, 0), (0, []))

    def test_behind_one_turn(self):
        self.turns(DEEP, 1, 4)
        self.turns(one_hand([("go", (1,)), FAULT]), 1, 4)
        self.turns(of_hands([[("wait", "x", 1), FAULT]], [[("set", "x", ("any",)), FAULT]], boxes=(("x", 2),)), 1, 3)

    def test_behind_two_turns(self):
        self.turns(TWO, 2, 4)

    def test_behind_three_turns(self):
        self.turns(THREE, 3, 5)
        self.turns(BEGUN, 3, 4)
        self.assertEqual([hand for hand, choices in told(THREE, limit_of(THREE, 4))[1]], [0, 1, 0])

    def test_behind_five_turns(self):
        self.turns(TURNS, 5, 7)
        self.assertEqual([hand for hand, choices in told(TURNS, limit_of(TURNS, 6))[1]], [0, 1, 0, 1, 0])

    def test_calls_of_any_depth(self):
        self.turns(CALLS, 3, 5)
        self.assertEqual([hand for hand, choices in told(CALLS, limit_of(CALLS, 4))[1]], [1, 0, 1])

    def test_never(self):
        self.turns(SAFE, None, 5)
        self.turns(of_hands([[BACK]]), None, 4)
        # Nobody is there from the first.
        self.turns(of_hands([[("begin", "handb")]], [[("begin", "handa"), FAULT]]), None, 4)

    def test_a_hand_that_faults_as_it_is_begun(self):
        self.turns(BEGIN_FAULT, 2, 4)
        self.assertEqual([hand for hand, choices in told(BEGIN_FAULT, limit_of(BEGIN_FAULT, 3))[1]], [2, 0])
        self.turns(of_hands([[("begin", "handb")]], [[FAULT]]), 1, 3)

    def test_a_hand_that_is_begun_while_others_have_gone(self):
        program = of_hands([[("begin", "handc"), ("wait", "x", 2), FAULT]], [[("wait", "x", 1), ("set", "x", ("to", 2))]],
                           [[("set", "x", ("to", 1))]], boxes=(("x", 3),))
        self.turns(program, 4, 5)
        self.assertEqual([hand for hand, choices in least_turns(program, 4)[1]], [0, 2, 1, 0])

    def test_one_hand_goes_once(self):
        # Alone it has one turn: with no other hand to go between more turns lead to no more.
        book = told(of_hands([[BACK]]), (5, (None,)))[1]
        self.assertEqual([entry[3] for entry in book], [None, 0])
        self.assertEqual(len(book), 2)

    def test_limits_on_single_hands(self):
        for each, wanted in (((None, None), 3), ((2, 1), 3), ((1, None), None), ((2, 0), None), ((None, 1), 3), ((0, 0), None), ((9, 9), 3)):
            self.assertEqual(self.tells(THREE, (4, each)), wanted)
        # By the longer way round where the shorter one's hand may not go so often.
        program = of_hands([[("wait", "x", 1), FAULT]], [[("set", "x", ("to", 1))]], [[("set", "x", ("to", 1))]], boxes=(("x", 2),))
        self.assertEqual(self.tells(program, (3, (None, 0, None))), 2)
        self.assertEqual([hand for hand, choices in told(program, (3, (None, 0, None)))[1]], [2, 0])
        self.assertEqual(self.tells(program, (3, (None, 0, 0))), None)
        self.assertEqual(self.tells(program, (0, (None, None, None))), None)

    def test_by_names_and_new_lists(self):
        kind, run = told(program=TWO, limit=limit_of(TWO, 2))
        wanted = [(hand, list(choices)) for hand, choices in run]
        for hand, choices in run:
            choices.append(None)
        run.clear()
        self.assertEqual(told(TWO, limit_of(TWO, 2)), ("run", wanted))
        self.assertEqual(least_turns(program=TWO, most=2), (2, wanted))
        kind, book = told(SAFE, limit_of(SAFE, 2))
        wanted = list(book)
        book.append(None)
        self.assertEqual(told(SAFE, limit_of(SAFE, 2)), ("book", wanted))


class ByChance(Told):
    def test_against_all_stands(self):
        found = {}
        for chance, program in faulty_programs(51, 500, deep=False):
            limit = some_limit(chance, program, 4)
            wanted = fewest_turns(program, limit)
            if wanted != "much":
                turns = self.tells(program, limit)
                self.assertEqual(turns, wanted)
                found[turns] = found.get(turns, 0) + 1
        self.assertLessEqual({None, 1, 2}, set(found))

    def test_with_calls_of_any_depth(self):
        found = {}
        for chance, program in faulty_programs(52, 400):
            limit = some_limit(chance, program, 3)
            turns = self.tells(program, limit)
            wanted = fewest_turns(program, limit)
            if wanted not in (None, "much"):
                self.assertLessEqual(turns, wanted)
            elif turns is None:
                self.assertIn(wanted, (None, "much"))
            found[turns] = True
        self.assertLessEqual({None, 1, 2}, set(found))

    def test_other_programs(self):
        for program, path, stands in many_walks(53, 120, 0):
            self.tells(program, limit_of(program, 1))

    def test_more_turns_never_lose_a_run(self):
        for chance, program in faulty_programs(54, 150):
            turns = [least_turns(program, many) for many in range(4)]
            for one, other in zip(turns, turns[1:]):
                if one is not None:
                    self.assertEqual(one[0], other[0])

    def test_drawn_walks_never_fault_where_a_book_is_told(self):
        chance = random.Random(55)
        walks, faults = 0, 0
        for more, program in faulty_programs(56, 150):
            kind, thing = told(program, limit_of(program, 2))
            for count in range(20):
                path, stands = some_walk(chance, program, 25)
                turns = 0
                for at, stand in enumerate(stands):
                    if at and (at == 1 or path[at - 1][0] != path[at - 2][0]):
                        turns += 1
                    if turns <= 2 and faulty_of(program, stand) is not None:
                        faults += 1
                        self.assertEqual(kind, "run")
                        self.assertLessEqual(len(thing), turns)
                walks += 1
        self.assertEqual(walks, 3000)
        self.assertGreater(faults, 10)


class Refusals(unittest.TestCase):
    def test_no_program(self):
        for thing in anything():
            with self.assertRaises(NoProgram):
                told(thing, thing)
            with self.assertRaises(NoProgram):
                least_turns(thing, thing)
            with self.assertRaises(NoProgram):
                least_turns(thing, 2)

    def test_no_limit(self):
        for thing in anything():
            with self.assertRaises(NoLimit):
                told(RICH, thing)
        for thing in ((None, (None, None, None)), (None, (1, 1, 1)), (1, (1, 1)), (1, (1, 1, 1, 1)), (1, [1, 1, 1]), (True, (1, 1, 1)),
                      (1, (1, True, 1)), (-1, (1, 1, 1)), (1, (1, -1, 1)), [1, (1, 1, 1)], (1, 1), (1, None)):
            with self.assertRaises(NoLimit):
                told(RICH, thing)
        for thing in never() + ["1", (), (1,), (1, (1, 1, 1)), -2, 1.5]:
            with self.assertRaises(NoLimit):
                least_turns(RICH, thing)

    def test_too_many_entries(self):
        # Five boxes that any hand sets as it likes: at each turn all of their values come.
        rows = [("set", name, ("any",)) for name in "abcde"]
        program = of_hands([rows], [rows], boxes=tuple((name, 4) for name in "abcde"))
        for ask in (lambda: told(program, limit_of(program, 2)), lambda: least_turns(program, 2)):
            with self.assertRaises(TooMany) as caught:
                ask()
            self.assertIn(caught.exception.many, (400, 40000))
        rows = [("set", "a", ("any",)), ("set", "b", ("any",)), ("set", "c", ("any",))]
        program = of_hands([rows], [rows], boxes=(("a", 4), ("b", 4), ("c", 4)))
        with self.assertRaises(TooMany) as caught:
            told(program, limit_of(program, 3))
        self.assertEqual(caught.exception.many, 400)
        self.assertEqual(told(program, limit_of(program, 1))[0], "book")

    def test_a_fault_ahead_of_many_entries_is_told(self):
        rows = [("set", "a", ("any",)), ("set", "b", ("any",)), ("set", "c", ("any",)), FAULT]
        program = of_hands([rows], [rows], boxes=(("a", 4), ("b", 4), ("c", 4)))
        self.assertEqual(least_turns(program, 9)[0], 1)


if __name__ == "__main__":
    unittest.main()
