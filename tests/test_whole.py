"""What is promised over the whole program: all ways tell alike; and programs that are none are refused at every door."""

import itertools
import random
import unittest

from fewturnsover.books import lets_book
from fewturnsover.closing import is_closed
from fewturnsover.endless import endless
from fewturnsover.errors import NoProgram, TooMany
from fewturnsover.folding import looked_at
from fewturnsover.growing import fault_in, grown, stretch
from fewturnsover.keeper import Keeper
from fewturnsover.limits import is_limit, limit_of
from fewturnsover.onehand import led_back, one_hand
from fewturnsover.programs import first_hands, hands_of, like_hands, look_at_program, row_at
from fewturnsover.runs import is_faulty, stands_of
from fewturnsover.stands import fault_at, first_stand, is_stand, steps
from fewturnsover.tables import joined, table_of
from fewturnsover.texts import read, shown
from fewturnsover.told import least_turns, told
from fewturnsover.walker import Walker
from tests.ordering import all_orders, order_program, relay_program
from tests.samples import BACK, DEEP, FAULT, TWO, anything, of_hands, paths, replaced
from tests.telling import faulty_programs
from tests.test_books import BEGUN, THREE
from tests.test_endless import AT_FIRST, NOBODY, NO_HAND
from tests.test_folding import BEGIN_BOTH, LIKE_THREE, ONE_ANOTHER
from tests.test_tables import tables_of
from tests.test_told import BEGIN_FAULT, CALLS

# Every function and class that is handed a program, the rest being things that are none.
DOORS = {
    look_at_program: 0, hands_of: 0, first_hands: 0, like_hands: 0, row_at: 2, first_stand: 0, is_stand: 1, steps: 2, fault_at: 1,
    Walker: 0, stands_of: 1, is_faulty: 1, is_closed: 2, grown: 2, fault_in: 2, stretch: 4, is_limit: 1, limit_of: 1, lets_book: 2,
    told: 1, least_turns: 1, looked_at: 1, endless: 0, one_hand: 1, led_back: 2, table_of: 2, joined: 2, Keeper: 1, shown: 0,
}
NAMED = {limit_of: {"each": -1}, looked_at: {"folded": False}, endless: {"rounds": -1}}


def by_told(program, most):
    found = least_turns(program, most)
    return None if found is None else found[0]


def by_orders(program, most):
    """The least number of turns of an order whose made program comes to a fault; 0 where one stands at first."""
    if fault_at(program, first_stand(program)) is not None:
        return 0
    for many in range(1, most + 1):
        for order in itertools.product(range(len(program[1])), repeat=many):
            if least_turns(one_hand(program, order), 1) is not None:
                return many
    return None


class AllAlike(unittest.TestCase):
    def tell_alike(self, program, most):
        wanted = by_told(program, most)
        self.assertEqual(by_orders(program, most), wanted)
        self.assertEqual(looked_at(program, most)[0], wanted)
        try:
            self.assertEqual(joined(program, tables_of(program, max(1, most)), most), wanted)
            self.assertEqual(Keeper(program, most).ask(), wanted)
        except TooMany as refused:
            self.assertEqual(refused.many, 2000)
        word = endless(program, rounds=most)[0]
        self.assertEqual(word == "run", wanted is not None)
        if word == "book":
            self.assertIsNone(by_told(program, most + 1))
        return wanted

    def test_known_programs(self):
        for program, wanted in ((AT_FIRST, 0), (DEEP, 1), (TWO, 2), (THREE, 3), (BEGUN, 3), (BEGIN_FAULT, 2), (CALLS, 3), (NOBODY, None), (NO_HAND, None),
                                (ONE_ANOTHER, None), (LIKE_THREE, None), (BEGIN_BOTH, None)):
            for most in range(4):
                self.assertEqual(self.tell_alike(program, most), wanted if wanted is not None and wanted <= most else None)

    def test_without_calls_in_rounds(self):
        chance = random.Random(131)
        found = {}
        for count in range(80):
            program = order_program(chance, deep=False, greatest=2, boxes=2, hands=2)
            turns = self.tell_alike(program, 3)
            found[turns] = found.get(turns, 0) + 1
        for count in range(20):
            turns = self.tell_alike(relay_program(chance, 2 + count % 2, deep=False), 3)
            found[turns] = found.get(turns, 0) + 1
        self.assertLessEqual({None, 0, 1, 2, 3}, set(found))

    def test_with_calls_in_rounds(self):
        found = {}
        for chance, program in faulty_programs(132, 60):
            turns = self.tell_alike(program, 2)
            found[turns] = True
        chance = random.Random(133)
        for count in range(80):
            turns = self.tell_alike(order_program(chance, greatest=2), 2)
            found[turns] = True
        for count in range(24):
            turns = self.tell_alike(relay_program(chance, 2 + count % 2, begins=count % 3 == 0), 3)
            found[turns] = True
        self.assertLessEqual({None, 0, 1, 2, 3}, set(found))

    def test_led_back_runs_are_as_few_turns(self):
        chance = random.Random(134)
        led = 0
        for count in range(80):
            program = order_program(chance, greatest=2)
            turns = by_told(program, 3)
            for order in all_orders(len(program[1]), 3) if turns else ():
                found = least_turns(one_hand(program, order), 1)
                if found is not None:
                    back = led_back(program, order, found[1])
                    self.assertIs(is_faulty(program, back), True)
                    self.assertTrue(turns <= len(back) <= len(order))
                    led += 1
        self.assertGreater(led, 30)

    def test_written_and_read_back(self):
        chance = random.Random(135)
        for count in range(30):
            program = order_program(chance, greatest=2)
            again = read(shown(program))
            limit = limit_of(program, 2)
            self.assertEqual(told(again, limit), told(program, limit))
            self.assertEqual(endless(again, rounds=2), endless(program, rounds=2))
            self.assertEqual(looked_at(again, 2), looked_at(program, 2))
            self.assertEqual(table_of(again, 0, 1), table_of(program, 0, 1))
            self.assertEqual(one_hand(again, (0,)), one_hand(program, (0,)))
            self.assertTrue(Keeper(again, 2) == Keeper(program, 2))

    def test_names_turn_nothing(self):
        # Other names of hands, boxes and texts, in their order: all is told alike.
        letters = dict(zip("abcdefghijklmnopqrstuvwxyz", "qwertyuiopasdfghjklzxcvbnm"))
        words = {"set", "to", "of", "on", "any", "if", "go", "call", "back", "wait", "begin", "fault"}
        chance = random.Random(136)
        for count in range(40):
            program = order_program(chance, greatest=2)
            other = program
            for path in paths(program):
                item = program
                for at in path:
                    item = item[at]
                if isinstance(item, str) and item not in words:
                    other = replaced(other, path, "".join(letters[letter] for letter in item))
            self.assertEqual(told(other, limit_of(other, 2)), told(program, limit_of(program, 2)))
            self.assertEqual(endless(other, rounds=2), endless(program, rounds=2))
            self.assertEqual(looked_at(other, 2), looked_at(program, 2))
            self.assertEqual(table_of(other, 0, 1), table_of(program, 0, 1))
            order = tuple(range(len(program[1])))
            self.assertEqual(least_turns(one_hand(other, order), 1), least_turns(one_hand(program, order), 1))

    def test_like_hands_exchanged(self):
        chance = random.Random(137)
        for count in range(40):
            boxes, hands = order_program(chance, greatest=2, hands=2)
            hands = hands + (("like",) + hands[0][1:],)
            one, other = (boxes, hands), (boxes, (("like",) + hands[0][1:],) + hands[1:-1] + hands[:1])
            self.assertEqual(by_told(one, 2), by_told(other, 2))
            self.assertEqual(looked_at(one, 2)[0], looked_at(other, 2)[0])
            self.assertEqual(endless(one, rounds=2)[0], endless(other, rounds=2)[0])
            self.assertEqual(table_of(one, 0, 1), table_of(other, 0, 1))


class Doors(unittest.TestCase):
    WRONG = (
        ((((), ()),), (None, None, None)),
        (((("x", 2), ("x", 2)), (("a", (), (("m", (BACK,)),)),)), (None, None, None)),
        (((), (("a", (), (("m", (BACK,)),)), ("a", (), (("m", (BACK,)),)))), (1, None, None)),
        (((), (("a", (), (("m", (BACK,)), ("m", (BACK,)))),)), (0, 1, None)),
        (of_hands([[BACK]], [[BACK], [FAULT, ("call", "none")]]), (1, 1, 1)),
        (of_hands([[BACK, ("set", "x", ("any",))]]), (0, 0, 1)),
    )

    def refuses(self, door, thing, rest, **named):
        with self.assertRaises(NoProgram) as caught:
            door(thing, *rest, **named)
        return caught.exception.hand, caught.exception.text, caught.exception.row

    def test_with_its_fields_ahead_of_all_else(self):
        for door, many in DOORS.items():
            for thing, fields in self.WRONG:
                self.assertEqual(self.refuses(door, thing, [None] * many), fields, door)
                self.assertEqual(self.refuses(door, thing, [-1] * many), fields, door)
                self.assertEqual(self.refuses(door, thing, [[]] * many, **NAMED.get(door, {})), fields, door)

    def test_of_anything(self):
        for door, many in DOORS.items():
            for thing in anything():
                self.assertEqual(self.refuses(door, thing, [thing] * many), (None, None, None), door)


if __name__ == "__main__":
    unittest.main()
