"""What is told of a program without an end of turns."""

import random
import unittest

from fewturnsover.books import lets_book
from fewturnsover.endless import endless
from fewturnsover.errors import NoLimit, NoProgram, TooMany
from fewturnsover.limits import limit_of
from fewturnsover.runs import is_faulty, put_together
from fewturnsover.told import least_turns
from tests.ordering import order_program, relay_program, rounds_of
from tests.reference import faulty_of, some_walk
from tests.samples import BACK, DEEP, FAULT, RICH, TWO, anything, never, of_hands
from tests.telling import faulty_programs
from tests.test_books import BEGUN, THREE
from tests.test_folding import ONE_ANOTHER, PROGRAMS
from tests.test_told import CALLS, SAFE, TURNS

AT_FIRST = of_hands([[BACK]], [[FAULT]])
# It waits for what nobody puts there.
NOBODY = of_hands([[("wait", "x", 2), FAULT]], [[("set", "x", ("to", 1)), ("call", "a")]], boxes=(("x", 3),))
NO_HAND = of_hands([[("begin", "handb")]], [[("begin", "handa"), FAULT]])
# Hands that put a box back and forth without an end; and such that call as deep as they like meanwhile.
FOREVER = of_hands(
    [[("wait", "x", 0), ("set", "x", ("to", 1)), ("go", (0,))]],
    [[("wait", "x", 1), ("set", "x", ("to", 0)), ("go", (0,))]],
    boxes=(("x", 2),),
)
ANY_DEPTH = of_hands(
    [[("go", (1, 2)), ("call", "a"), ("wait", "x", 0), ("go", (0, 4)), ("set", "x", ("to", 1))]],
    [[("go", (1, 2)), ("call", "a"), ("wait", "x", 1), ("set", "x", ("to", 0)), ("go", (0,)), FAULT]],
    boxes=(("x", 2),),
)
# At each turn one call more is on the pile, so that new entries come without an end.
DEEPER = of_hands(
    [[("wait", "x", 0), ("set", "x", ("to", 1)), ("call", "a")]],
    [[("wait", "x", 1), ("set", "x", ("to", 0)), ("call", "a")]],
    boxes=(("x", 2),),
)
LIMITS = [(many, each) for many in (None, 0, 1, 3, 10 ** 9) for each in (None, 0, 2, 10 ** 9)]


class Endless(unittest.TestCase):
    def tells(self, program, rounds):
        """Hold what is told against what it has to be; tell the word."""
        answer = endless(program, rounds=rounds)
        word = answer[0]
        if word == "open":
            self.assertEqual(answer, ("open",))
            self.assertIsNone(least_turns(program, rounds))
        elif word == "run":
            run = answer[1]
            self.assertIsInstance(run, list)
            self.assertIs(is_faulty(program, run), True)
            self.assertEqual(put_together(run), run)
            self.assertLessEqual(len(run), rounds)
            self.assertEqual(least_turns(program, rounds)[0], len(run))
        else:
            self.assertEqual(word, "book")
            self.lets_all(program, answer[1])
        self.assertEqual(len(answer), 1 if word == "open" else 2)
        return word

    def lets_all(self, program, book):
        self.assertIsInstance(book, list)
        for many, each in LIMITS:
            self.assertIs(lets_book(program, limit_of(program, many, each=each), book), True)
        for hand in range(len(program[1])):
            mixed = (None, tuple(1 if other == hand else None for other in range(len(program[1]))))
            self.assertIs(lets_book(program, mixed, book), True)
        for most in range(4):
            self.assertIsNone(least_turns(program, most))

    def goes(self, program, most=5):
        """Hold all numbers of rounds against one another and against rounds gone by plainly."""
        words = [self.tells(program, rounds) for rounds in range(most + 1)]
        wanted = [rounds_of(program, rounds)[0][0] for rounds in range(most + 1)]
        self.assertEqual(words, wanted)
        last = [word for word in words if word != "open"]
        self.assertEqual(words, ["open"] * (len(words) - len(last)) + last)
        self.assertLessEqual(len(set(last)), 1)
        told = [endless(program, rounds=rounds) for rounds in range(most + 1)]
        self.assertTrue(all(answer == told[-1] for answer in told if answer[0] != "open"))
        if words[-1] == "book":
            self.assertEqual(len(told[-1][1]), rounds_of(program, most)[1])
        return words

    def test_at_first(self):
        self.assertEqual(self.goes(AT_FIRST), ["run"] * 6)
        self.assertEqual(endless(AT_FIRST, rounds=0), ("run", []))

    def test_behind_some_turns(self):
        self.assertEqual(self.goes(DEEP), ["open"] + ["run"] * 5)
        self.assertEqual(self.goes(TWO), ["open"] * 2 + ["run"] * 4)
        self.assertEqual(self.goes(THREE), ["open"] * 3 + ["run"] * 3)
        self.assertEqual(self.goes(BEGUN), ["open"] * 3 + ["run"] * 3)
        self.assertEqual(self.goes(CALLS), ["open"] * 3 + ["run"] * 3)
        self.assertEqual(self.goes(TURNS), ["open"] * 5 + ["run"])
        self.assertEqual([hand for hand, choices in endless(TURNS, rounds=1000)[1]], [0, 1, 0, 1, 0])

    def test_never(self):
        for program in (NOBODY, FOREVER, ANY_DEPTH, of_hands([[BACK]]), ONE_ANOTHER):
            self.goes(program)
            self.assertEqual(self.tells(program, 1000), "book")

    def test_always_open(self):
        for program in (SAFE, DEEPER):
            self.assertEqual(self.goes(program), ["open"] * 6)

    def test_one_hand_takes_two_rounds(self):
        # The first brings an entry, the second none.
        self.assertEqual(self.goes(of_hands([[BACK]])), ["open"] * 2 + ["book"] * 4)

    def test_no_hand_is_there_at_first(self):
        self.assertEqual(self.goes(NO_HAND), ["open"] + ["book"] * 5)
        self.assertEqual(len(endless(NO_HAND, rounds=1)[1]), 1)

    def test_four_rounds_if_none_are_told(self):
        for program in (AT_FIRST, TWO, TURNS, SAFE, NOBODY, FOREVER, RICH):
            self.assertEqual(endless(program), endless(program, rounds=4))
        self.assertEqual(endless(TURNS), ("open",))

    def test_like_hands_and_others(self):
        for program in PROGRAMS:
            words = [endless(program, rounds=rounds)[0] for rounds in range(5)]
            self.assertEqual(words, [rounds_of(program, rounds)[0][0] for rounds in range(5)])

    def test_by_chance(self):
        found = {}
        for chance, program in faulty_programs(71, 60):
            words = self.goes(program, 4)
            found[words[-1]] = found.get(words[-1], 0) + 1
        self.assertLessEqual({"run", "book"}, set(found))

    def test_other_programs_by_chance(self):
        chance = random.Random(72)
        found = {}
        for count in range(120):
            program = order_program(chance, greatest=2)
            words = self.goes(program, 3)
            found[tuple(words)] = True
        self.assertGreater(len(found), 4)

    def test_faults_that_need_several_turns(self):
        chance = random.Random(75)
        found = {}
        for count in range(40):
            words = self.goes(relay_program(chance, chance.randint(2, 4), chance.choice([2, 3]), begins=count % 4 == 0), 4)
            found[tuple(words)] = True
        self.assertLessEqual({("open",) * many + ("run",) * (5 - many) for many in (2, 3, 4)}, set(found))

    def test_walks_never_fault_where_a_book_is_told(self):
        chance = random.Random(73)
        books = 0
        for more, program in faulty_programs(74, 60):
            if endless(program, rounds=3)[0] == "book":
                books += 1
                for count in range(10):
                    path, stands = some_walk(chance, program, 40)
                    self.assertTrue(all(faulty_of(program, stand) is None for stand in stands))
        self.assertGreater(books, 15)

    def test_new_lists_and_names(self):
        kind, run = endless(program=TWO, rounds=3)
        wanted = [(hand, list(choices)) for hand, choices in run]
        for hand, choices in run:
            choices.append(None)
        run.clear()
        self.assertEqual(endless(TWO, rounds=3), ("run", wanted))
        kind, book = endless(NOBODY)
        wanted = list(book)
        book.clear()
        self.assertEqual(endless(NOBODY), ("book", wanted))
        with self.assertRaises(TypeError):
            endless(TWO, 3)


class Refusals(unittest.TestCase):
    def test_no_program(self):
        for thing in anything():
            for ask in (lambda: endless(thing), lambda: endless(thing, rounds=thing), lambda: endless(thing, rounds=0)):
                with self.assertRaises(NoProgram):
                    ask()

    def test_no_limit(self):
        for thing in never() + [-2, "1", (), (1,), (1, (None, None, None)), 1.5]:
            for program in (RICH, AT_FIRST, SAFE):
                with self.assertRaises(NoLimit):
                    endless(program, rounds=thing)

    def refuses_many(self, program, rounds):
        with self.assertRaises(TooMany) as caught:
            endless(program, rounds=rounds)
        self.assertEqual(caught.exception.many, 400)

    def test_too_many_entries(self):
        rows = [("set", "a", ("any",)), ("set", "b", ("any",)), ("set", "c", ("any",))]
        program = of_hands([rows], [rows], boxes=(("a", 4), ("b", 4), ("c", 4)))
        self.assertEqual(endless(program, rounds=1), ("open",))
        for rounds in (2, 4, 1000, 10 ** 29):
            self.refuses_many(program, rounds)
        for deeper in (DEEPER, SAFE):
            self.refuses_many(deeper, 1000)
            self.assertEqual(endless(deeper), ("open",))


if __name__ == "__main__":
    unittest.main()
