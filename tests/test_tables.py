"""Tables of a hand's turns, and tables of all hands joined."""

import itertools
import random
import unittest

from fewturnsover.errors import NoHand, NoProgram, TooMany
from fewturnsover.least import least
from fewturnsover.machines import is_machine
from fewturnsover.tables import joined, table_of
from fewturnsover.told import least_turns
from tests.machining import moves
from tests.ordering import Turns, first_machine, order_program, relay_program
from tests.samples import BACK, DEEP, FAULT, RICH, TWO, anything, never, of_hands
from tests.telling import faulty_programs, fewest_turns
from tests.test_books import BEGUN, THREE
from tests.test_endless import AT_FIRST, NOBODY, NO_HAND
from tests.test_folding import BEGIN_BOTH, ONE_ANOTHER, OTHER_BEGIN
from tests.test_told import BEGIN_FAULT, CALLS, SAFE, TURNS

NOTHING = of_hands([[BACK]], boxes=(("x", 3),))


def commons_of(program, hand):
    """All common states in which a hand is begun."""
    flags = [(1,) if other == hand else (0, 1) for other in range(len(program[1]))]
    return list(itertools.product(*[range(size) for name, size in program[0]], *flags))


def may_follow(program, pairs, common):
    many = len(program[0])
    return not pairs or all(one <= other for one, other in zip(pairs[-1][1][many:], common[many:]))


def table_plainly(program, hand, many, turn, first):
    """The table by a function that tells of a common state and what the hand may be at whether a turn comes to a fault,
    and a dict of what it may be at behind it; "much" where there are more than 2000 tuples."""
    table, faults, front = {(): first}, [], [()]
    for count in range(many):
        ahead = []
        for pairs in front:
            for common in commons_of(program, hand):
                if may_follow(program, pairs, common):
                    faulty, ways = turn(common, table[pairs])
                    if faulty:
                        faults.append((pairs, common))
                    for known, there in ways.items():
                        ahead.append(pairs + ((common, known),))
                        table[ahead[-1]] = there
            if len(table) > 2000:
                return "much"
        front = ahead
    return table, sorted(faults)


def by_machines(program, hand, many):
    turns = Turns(program)
    return table_plainly(program, hand, many, lambda common, machine: turns.turn(hand, common, machine), first_machine(program, hand))


def by_places(program, hand, many):
    """The same by all places (values, pile), for texts that call no text in rounds, put into machines at last."""
    texts = program[1][hand][2]
    known = {}

    def turn(common, places):
        key = (common, places)
        if key not in known:
            found = {(common + values, pile) for values, pile in places}
            front = list(found)
            while front:
                control, pile = front.pop()
                for choice, onward, points in moves(program, hand, control, pile[0]) if pile else ():
                    there = (onward, points + pile[1:])
                    if there not in found:
                        found.add(there)
                        front.append(there)
            faulty = any(pile and (texts[pile[0][0]][1] + (BACK,))[pile[0][1]] == FAULT for control, pile in found)
            ways = {}
            for control, pile in found:
                ways.setdefault(control[:len(common)], set()).add((control[len(common):], pile))
            known[key] = faulty, {name: frozenset(ways[name]) for name in ways}
        return known[key]

    told = table_plainly(program, hand, many, turn, frozenset([((0,) * len(program[1][hand][1]), ((0, 0),))]))
    if told == "much":
        return told
    made = {places: machine_reading(places) for places in set(told[0].values())}
    return {pairs: made[places] for pairs, places in told[0].items()}, told[1]


def machine_reading(places):
    """The least machine that reads just these."""
    begins, edges, ends, state = [], [], [], 0
    for values, pile in sorted(places):
        begins.append((values, state))
        for point in pile:
            edges.append((state, point, state + 1))
            state += 1
        ends.append(state)
        state += 1
    return least((tuple(sorted(begins)), tuple(sorted(edges)), tuple(sorted(ends))))


def answer(program, hand, many):
    try:
        return table_of(program, hand, many)
    except TooMany as refused:
        assert refused.many == 2000
        return "much"


def tables_of(program, many):
    return [table_of(program, hand, many) for hand in range(len(program[1]))]


class Tables(unittest.TestCase):
    def holds(self, program, hand, many, plainly=by_machines):
        told = answer(program, hand, many)
        self.assertEqual(told, plainly(program, hand, many))
        if told != "much":
            self.looks(program, hand, many, told)
        return told

    def looks(self, program, hand, many, told):
        """Hold a table against what is told of all of them."""
        self.assertIsInstance(told, tuple)
        table, faults = told
        self.assertIsInstance(table, dict)
        self.assertIsInstance(faults, list)
        self.assertEqual(faults, sorted(set(faults)))
        self.assertLessEqual(len(table), 2000)
        self.assertEqual(table[()], first_machine(program, hand))
        at = len(program[0])
        for pairs, machine in table.items():
            self.assertIs(is_machine(machine), True)
            self.assertEqual(machine, least(machine))
            self.assertTrue(machine[0])
            self.assertLessEqual(len(pairs), many)
            row = [common for pair in pairs for common in pair]
            self.assertTrue(all(begin[at + hand] == 1 for begin, end in pairs))
            for one, other in zip(row, row[1:]):
                self.assertTrue(all(less <= more for less, more in zip(one[at:], other[at:])))
            # What is told of fewer turns, and a turn of no steps, are there too.
            self.assertTrue(not pairs or pairs[:-1] in table)
            if len(pairs) < many and pairs:
                self.assertIn(pairs + ((pairs[-1][1], pairs[-1][1]),), table)
        self.assertTrue(all(pairs in table and len(pairs) < many for pairs, common in faults))

    def test_a_hand_that_does_nothing(self):
        table, faults = self.holds(NOTHING, 0, 1)
        self.assertEqual(sorted(table), [()] + [(((value, 1), (value, 1)),) for value in range(3)])
        self.assertEqual(faults, [])
        # At first, and over.
        self.assertEqual(table[(((0, 1), (0, 1)),)], (((((), 0)),), ((0, (0, 0), 1),), (0, 1)))
        for many in (2, 3, 4):
            self.assertEqual(len(self.holds(NOTHING, 0, many)[0]), sum(3 ** count for count in range(many + 1)))

    def test_faults_and_turns_of_no_steps(self):
        program = of_hands([[FAULT]], boxes=(("x", 2),))
        table, faults = self.holds(program, 0, 2)
        commons = [(0, 1), (1, 1)]
        self.assertEqual(faults, [((), common) for common in commons]
                         + [(((one, one),), other) for one in commons for other in commons])
        program = of_hands([[("wait", "x", 1), FAULT]], boxes=(("x", 2),))
        self.assertEqual(self.holds(program, 0, 1)[1], [((), (1, 1))])
        faults = self.holds(program, 0, 2)[1]
        # Having come to the fault it stands there by a turn of no steps.
        self.assertEqual(faults, [((), (1, 1)), ((((0, 1), (0, 1)),), (1, 1)), ((((1, 1), (1, 1)),), (0, 1)), ((((1, 1), (1, 1)),), (1, 1))])

    def test_known_programs(self):
        for program in (TWO, THREE, BEGUN, CALLS, SAFE, NOBODY, AT_FIRST, NO_HAND, BEGIN_FAULT, DEEP, ONE_ANOTHER, OTHER_BEGIN, BEGIN_BOTH):
            for hand in range(len(program[1])):
                for many in (1, 2):
                    self.holds(program, hand, many)
        for hand in (0, 1):
            for many in (3, 4):
                self.holds(SAFE, hand, many)
                self.holds(AT_FIRST, hand, many)
            self.holds(BEGIN_FAULT, hand, 3)

    def test_by_places(self):
        chance = random.Random(91)
        found = {}
        for count in range(120):
            program = order_program(chance, deep=False, greatest=chance.choice([2, 2, 3]), boxes=chance.choice([1, 1, 2]), rows=4)
            hand = chance.randrange(len(program[1]))
            many = chance.randint(1, 4) if len(program[0]) < 2 and len(program[1]) < 3 else 1
            told = self.holds(program, hand, many, by_places)
            found[many] = True
            found["faults"] = found.get("faults", False) or told != "much" and bool(told[1])
        self.assertEqual(found, {1: True, 2: True, 3: True, 4: True, "faults": True})

    def test_with_calls_of_any_depth(self):
        chance = random.Random(92)
        for count in range(80):
            program = order_program(chance, greatest=chance.choice([1, 2, 3]), boxes=chance.choice([1, 2]), rows=4)
            hand = chance.randrange(len(program[1]))
            self.holds(program, hand, chance.randint(1, 3) if len(program[0]) < 2 and len(program[1]) < 3 else 1)

    def test_a_hand_is_told_of_by_itself(self):
        # The other hands' rows turn nothing, also those that begin it.
        boxes, hands = TWO
        for rows in ((FAULT,), (("begin", "handa"),), (("set", "x", ("any",)), ("call", "a"))):
            other = boxes, (hands[0], ("handb", (("p", 8),), (("a", rows),)))
            self.assertEqual(table_of(TWO, 0, 2), table_of(other, 0, 2))

    def test_new_ones_each_time(self):
        table, faults = table_of(program=THREE, hand=0, many=2)
        wanted = dict(table), list(faults)
        table.clear()
        faults.append(None)
        self.assertEqual(table_of(THREE, 0, 2), wanted)


class TooManyTuples(unittest.TestCase):
    def refuses(self, program, many):
        with self.assertRaises(TooMany) as caught:
            table_of(program, 0, many)
        self.assertEqual(caught.exception.many, 2000)

    def sized(self, *sizes):
        return of_hands([[BACK]], boxes=tuple((name, size) for name, size in zip("abcdefgh", sizes)))

    def test_many_common_states(self):
        self.refuses(self.sized(4, 4, 4, 4, 4, 4, 4, 4), 1)
        self.refuses(self.sized(4, 4, 4, 4, 4, 2), 1)
        self.assertEqual(len(table_of(self.sized(4, 4, 4, 4, 4), 0, 1)[0]), 1025)
        self.refuses(self.sized(4, 4, 4, 4, 4), 2)
        self.refuses(self.sized(4, 4, 3), 2)
        self.assertEqual(len(table_of(self.sized(4, 3, 3), 0, 2)[0]), 1 + 36 + 36 * 36)
        self.refuses(self.sized(4, 3), 4)
        self.assertEqual(len(table_of(self.sized(4, 3), 0, 3)[0]), 1 + 12 + 12 ** 2 + 12 ** 3)
        self.refuses(self.sized(3, 4, 1), 4)
        self.assertEqual(len(table_of(self.sized(3, 2), 0, 4)[0]), 1 + 6 + 6 ** 2 + 6 ** 3 + 6 ** 4)

    def test_just_so_many(self):
        # 1944 common states that lead to themselves, 54 of them to one more; and no turns.
        boxes = tuple(zip("abcdefg", (4, 2, 3, 3, 3, 3, 3)))
        flip = ("set", "b", ("on", 1))

        def alone(number):
            return [("wait", name, 0) for name in "bcdefg"] + [("wait", "a", number), flip, BACK]

        rows = [("go", (1, 6)), ("wait", "a", 3), ("wait", "c", 2), ("wait", "d", 2), flip, BACK]
        for more, wanted in (([BACK], 1999), (alone(1), 2000)):
            program = of_hands([rows + more], boxes=boxes)
            self.assertEqual(len(table_of(program, 0, 1)[0]), wanted)
        two = [("go", (1, 6, 15)), *rows[1:], *alone(1), *alone(2)]
        self.refuses(of_hands([two], boxes=boxes), 1)


class Joined(unittest.TestCase):
    def joins(self, program, most, more=0):
        """Hold what tables joined tell against least_turns; tell it. None where a table is refused."""
        many = max(1, most + more)
        tables = []
        for hand in range(len(program[1])):
            tables.append(answer(program, hand, many))
            if tables[-1] == "much":
                return "much"
        found = joined(program, tables, most)
        wanted = least_turns(program, most)
        self.assertEqual(found, None if wanted is None else wanted[0])
        return found

    def test_known_programs(self):
        for program, wanted in ((AT_FIRST, 0), (DEEP, 1), (TWO, 2), (THREE, 3), (BEGUN, 3), (BEGIN_FAULT, 2), (SAFE, None), (NOBODY, None),
                                (NO_HAND, None), (ONE_ANOTHER, None)):
            for most in range(4):
                known = wanted if wanted is not None and wanted <= most else None
                # Where there are three hands or three values three turns are too many for a table.
                self.assertIn(self.joins(program, most), (known, "much") if most == 3 else (known,))
                for more in (1, 2):
                    if most + more <= 4:
                        self.assertIn(self.joins(program, most, more), (known, "much"))
        self.assertEqual(self.joins(CALLS, 2), None)
        self.assertEqual(self.joins(TURNS, 1), None)

    def test_four_turns(self):
        program = of_hands([[("set", "x", ("to", 1)), ("wait", "x", 0), ("set", "x", ("to", 1)), BACK]],
                           [[("wait", "x", 1), ("set", "x", ("to", 0)), ("wait", "x", 1), FAULT]], boxes=(("x", 2),))
        self.assertEqual([self.joins(program, most) for most in range(5)], [None, None, None, None, 4])

    def test_a_hand_begun_at_a_fault(self):
        program = of_hands([[("wait", "x", 1), ("begin", "handc")]], [[("set", "x", ("to", 1))]], [[FAULT]], boxes=(("x", 2),))
        self.assertEqual([self.joins(program, most) for most in range(3)], [None, None, 2])
        # It is not begun, so that its fault counts for nothing.
        self.assertEqual(joined(NO_HAND, tables_of(NO_HAND, 2), 2), None)
        one = of_hands([[("go", (0,)), ("begin", "handb")]], [[FAULT]])
        self.assertEqual([self.joins(one, most) for most in range(3)], [None, None, None])

    def test_against_all_stands(self):
        chance = random.Random(93)
        found = {}
        for count in range(250):
            program = order_program(chance, deep=False, greatest=2, boxes=1, rows=5)
            most = chance.randint(0, 4 if len(program[1]) < 3 else 2)
            told = self.joins(program, most)
            wanted = fewest_turns(program, (most, (None,) * len(program[1])))
            if told != "much" and wanted != "much":
                self.assertEqual(told, wanted)
            found[told] = found.get(told, 0) + 1
        self.assertLessEqual({None, 0, 1, 2}, set(found))

    def test_with_calls_of_any_depth(self):
        found = {}
        for chance, program in faulty_programs(94, 300):
            told = self.joins(program, 2 if len(program[1]) == 2 else 1)
            found[told] = found.get(told, 0) + 1
        self.assertLessEqual({None, 1, 2}, set(found))

    def test_faults_that_need_several_turns(self):
        chance = random.Random(95)
        found = {}
        for count in range(30):
            told = self.joins(relay_program(chance, chance.randint(2, 3), deep=count % 2 == 0, begins=count % 3 == 0), 3)
            found[told] = True
        self.assertLessEqual({2, 3}, set(found))

    def test_tables_are_left_as_they_are(self):
        tables = tables_of(THREE, 3)
        before = [(dict(table), list(faults)) for table, faults in tables]
        self.assertEqual(joined(program=THREE, tables=tables, most=3), 3)
        self.assertEqual(joined(THREE, tables, 2), None)
        self.assertEqual(tables, before)


class Refusals(unittest.TestCase):
    def test_no_program(self):
        for thing in anything():
            for ask in (lambda: table_of(thing, 0, 1), lambda: table_of(thing, thing, thing), lambda: joined(thing, [], 1),
                        lambda: joined(thing, thing, thing)):
                with self.assertRaises(NoProgram):
                    ask()

    def test_no_hand(self):
        for thing in never() + [3, 4, 10 ** 29, "a", (), (0,)]:
            with self.assertRaises(NoHand) as caught:
                table_of(RICH, thing, 1)
            self.assertIs(caught.exception.hand, thing)


if __name__ == "__main__":
    unittest.main()
