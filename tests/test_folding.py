"""How many entries are looked at for the fewest turns, like hands folded or not."""

import itertools
import random
import unittest

from fewturnsover.errors import NoLimit, NoProgram, TooMany
from fewturnsover.folding import looked_at
from fewturnsover.limits import limit_of
from fewturnsover.programs import like_hands
from fewturnsover.told import least_turns, told
from tests.ordering import order_program, relay_program
from tests.samples import BACK, DEEP, FAULT, RICH, TWO, anything, never, of_hands
from tests.telling import faulty_programs

STEPS = (("set", "x", ("on", 1)), ("call", "sub"))
SUB = (("go", (1, 3)), ("set", "a", ("any",)), ("call", "sub"), BACK)
WORKER = ((("a", 2),), (("top", STEPS), ("sub", SUB)))
WAITER = ((), (("top", (("wait", "x", 2), ("set", "y", ("to", 1)), ("wait", "y", 0), FAULT)),))


def with_hands(*hands):
    """A program of hands, each (own, texts), with the boxes x and y."""
    names = ("one", "two", "three", "four")
    return (("x", 3), ("y", 2)), tuple((name,) + hand for name, hand in zip(names, hands))


LIKE_TWO = with_hands(WORKER, WORKER)
LIKE_THREE = with_hands(WORKER, WORKER, WORKER)
LIKE_FOUR = with_hands(WAITER, WAITER, WAITER, WAITER)
TWO_LOTS = with_hands(WORKER, WAITER, WORKER, WAITER)
# Like texts, but the first hand begins the last one, so it is like none.
OTHER_BEGIN = with_hands(((), (("top", STEPS[:1] + (("begin", "three"),)),)), ((), (("top", STEPS[:1]),)), WAITER)
# Like texts but for the hand that each begins, and hands that begin one another.
BEGIN_BOTH = with_hands(((), (("top", (("begin", "three"),)),)), ((), (("top", (("begin", "three"),)),)), WAITER)
ONE_ANOTHER = with_hands(((), (("top", (("begin", "two"), FAULT)),)), ((), (("top", (("begin", "one"), FAULT)),)), WORKER)
# Alike but for the name of a box, and of a text.
OTHER_BOX = with_hands(WORKER, ((("b", 2),), (("top", STEPS), ("sub", (SUB[0], ("set", "b", ("any",)), SUB[2], BACK)))))
OTHER_TEXT = with_hands(((), (("top", STEPS[:1]),)), ((), (("main", STEPS[:1]),)))
PROGRAMS = (LIKE_TWO, LIKE_THREE, LIKE_FOUR, TWO_LOTS, OTHER_BEGIN, BEGIN_BOTH, ONE_ANOTHER, OTHER_BOX, OTHER_TEXT, TWO, DEEP)


def kinds_of(program, book):
    """How many entries of a book there are but for like hands exchanged, by trying all exchanges."""
    lots = like_hands(program)
    found = set()
    for limit, common, machines, last, turns in book:
        forms = []
        for exchange in itertools.product(*(list(itertools.permutations(lot)) for lot in lots)):
            place = {old: new for lot, other in zip(lots, exchange) for old, new in zip(lot, other)}
            there = [None] * len(machines)
            for hand, machine in enumerate(machines):
                there[place[hand]] = repr(machine)
            forms.append((tuple(there), -1 if last is None else place[last]))
        found.add((limit, common, min(forms)))
    return len(found)


class Looking(unittest.TestCase):
    def looks(self, program, most):
        """Hold what is told against what least_turns and told tell; tell both numbers of entries."""
        found = least_turns(program, most)
        turns = None if found is None else found[0]
        one, folded = looked_at(program, most)
        other, plain = looked_at(program, most, folded=False)
        self.assertEqual((one, other), (turns, turns))
        self.assertLessEqual(folded, plain)
        self.assertGreaterEqual(folded, 1)
        self.assertEqual(looked_at(program, most, folded=True), (one, folded))
        if all(len(lot) == 1 for lot in like_hands(program)):
            self.assertEqual(folded, plain)
        if turns is None:
            book = told(program, limit_of(program, most))[1]
            self.assertEqual(plain, len(book))
            self.assertEqual(folded, kinds_of(program, book))
        return folded, plain

    def test_programs_of_every_kind(self):
        for program in PROGRAMS:
            for most in range(4):
                self.looks(program, most)

    def test_fewer_where_like_hands_go(self):
        for program in (LIKE_TWO, LIKE_THREE, LIKE_FOUR, TWO_LOTS):
            self.assertEqual(looked_at(program, 0), (None, 1))
            for most in (1, 2, 3):
                folded, plain = self.looks(program, most)
                self.assertLess(folded, plain)

    def test_by_hand(self):
        # One entry at first, and one for whichever hand went.
        program = with_hands(*[((), (("top", (BACK,)),))] * 3)
        self.assertEqual(looked_at(program, 1), (None, 2))
        self.assertEqual(looked_at(program, 1, folded=False), (None, 4))
        # Behind two turns two have gone, one of them last.
        self.assertEqual(looked_at(program, 2), (None, 3))
        self.assertEqual(looked_at(program, 2, folded=False), (None, 10))

    def test_no_like_hands(self):
        for program in (OTHER_BEGIN, BEGIN_BOTH, ONE_ANOTHER, OTHER_BOX, OTHER_TEXT):
            self.assertTrue(all(len(lot) == 1 for lot in like_hands(program)), program)
            for most in range(4):
                folded, plain = self.looks(program, most)
                self.assertEqual(folded, plain)

    def test_runs(self):
        self.assertEqual(looked_at(of_hands([[BACK]], [[FAULT]]), 0)[0], 0)
        self.assertEqual(looked_at(of_hands([[BACK]], [[FAULT]]), 3)[0], 0)
        self.assertEqual(looked_at(TWO, 3)[0], 2)
        self.assertEqual(looked_at(TWO, 1)[0], None)
        self.assertEqual(looked_at(DEEP, 1)[0], 1)
        racer = ((), (("top", (("if", "x", 1, 2), ("set", "x", ("to", 1)), ("if", "y", 1, 4), ("set", "y", ("to", 1)), ("wait", "x", 2), FAULT)),))
        self.assertEqual(looked_at(with_hands(racer, racer, ((), (("top", (("wait", "y", 1), ("set", "x", ("to", 2)))),))), 3)[0], 3)

    def test_by_chance(self):
        for chance, program in faulty_programs(61, 120):
            self.looks(program, chance.randint(0, 3))

    def test_like_hands_by_chance(self):
        chance = random.Random(62)
        fewer = 0
        for count in range(80):
            boxes, hands = order_program(chance, hands=2, rows=4, greatest=2)
            many = chance.randint(1, 4 - len(hands))
            more = tuple((name,) + hands[0][1:] for name in ("like", "alike")[:many])
            folded, plain = self.looks((boxes, hands + more), chance.randint(0, 3))
            fewer += folded < plain
        self.assertGreater(fewer, 20)

    def test_faults_that_need_several_turns(self):
        chance = random.Random(63)
        found = {}
        for count in range(60):
            boxes, hands = relay_program(chance, chance.randint(2, 3), begins=count % 4 == 0)
            more = (("like",) + hands[1][1:],) if count % 3 else ()
            program = boxes, hands + more
            self.looks(program, 3)
            found[looked_at(program, 3)[0]] = True
        self.assertLessEqual({1, 2, 3}, set(found))

    def test_exchanged_hands_are_told_alike(self):
        for program in (LIKE_THREE, TWO_LOTS, OTHER_BEGIN, BEGIN_BOTH):
            boxes, hands = program
            for exchanged in itertools.permutations(hands):
                for most in range(3):
                    other = (boxes, exchanged)
                    self.assertEqual(looked_at(program, most)[0], looked_at(other, most)[0])
                    if least_turns(program, most) is None:
                        self.assertEqual(looked_at(program, most), looked_at(other, most))

    def test_by_names(self):
        self.assertEqual(looked_at(program=TWO, most=1, folded=False), looked_at(TWO, 1))
        with self.assertRaises(TypeError):
            looked_at(TWO, 1, False)


class Refusals(unittest.TestCase):
    def test_no_program(self):
        for thing in anything():
            for ask in (lambda: looked_at(thing, 1), lambda: looked_at(thing, thing), lambda: looked_at(thing, None, folded=False)):
                with self.assertRaises(NoProgram):
                    ask()

    def test_no_limit(self):
        for thing in never() + [-2, "1", (), (1,), (1, (None, None, None)), 1.5]:
            for folded in (True, False):
                with self.assertRaises(NoLimit):
                    looked_at(RICH, thing, folded=folded)

    def refuses_many(self, program, most, folded):
        with self.assertRaises(TooMany) as caught:
            looked_at(program, most, folded=folded)
        self.assertEqual(caught.exception.many, 400)

    def test_too_many_entries(self):
        def alike(many, names):
            rows = [("set", name, ("any",)) for name in names]
            return of_hands(*[[rows]] * many, boxes=tuple((name, 4) for name in names))
        self.assertEqual(looked_at(alike(3, "abc"), 1), (None, 65))
        self.assertEqual(looked_at(alike(3, "abc"), 1, folded=False), (None, 193))
        self.refuses_many(alike(3, "abc"), 2, True)
        self.refuses_many(alike(3, "abc"), 2, False)
        # Folded fewer come, so that it is refused later.
        self.assertEqual(looked_at(alike(4, "ab"), 3), (None, 350))
        self.refuses_many(alike(4, "ab"), 2, False)
        self.refuses_many(alike(4, "a"), 3, False)


if __name__ == "__main__":
    unittest.main()
