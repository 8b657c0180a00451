"""What a hand comes to in a turn: grown machines, their faults, and stretches to what they read."""

import random
import unittest

from fewturnsover.closing import is_closed
from fewturnsover.errors import NoHand, NoMachine, NoProgram, TooMany
from fewturnsover.growing import fault_in, grown, stretch
from fewturnsover.least import least
from fewturnsover.machines import reads
from tests.machining import (
    all_piles, all_read, gone, grown_plainly, is_turn_of, joined, living, machine_of, moves, points_of, read_by, renumbered,
    states_in, twice,
)
from tests.samples import BACK, DEEP, FAULT, RICH, anything, item_at, never, of_hands, one_hand, paths, replaced
from tests.test_closing import EMPTY, at_first, small_programs, some_turn

ROWS = (("set", "x", ("to", 2)), ("set", "x", ("of", "a")), ("set", "x", ("on", 2)), ("set", "a", ("any",)), ("set", "x", ("any",)),
        ("if", "x", 1, 0), ("if", "x", 1, 2), ("if", "x", 0, 2), ("go", (0, 1, 2)), ("go", (2,)), ("call", "top"), BACK,
        ("wait", "x", 1), ("wait", "x", 2), FAULT)
BIG = ((), (("main", tuple((name, 8) for name in "abcdefgh"), (("top", tuple(("set", name, ("any",)) for name in "abcdefgh")),)),))


def gone_by(program, hand, control, pile, choices):
    """Where a hand is behind choices gone row by row; None where one is none."""
    for choice in choices:
        if not pile:
            return None
        found = [(onward, points + pile[1:]) for known, onward, points in moves(program, hand, control, pile[0])
                 if known == choice and type(known) is type(choice)]
        if len(found) != 1:
            return None
        control, pile = found[0]
    return control, pile


class Checks(unittest.TestCase):
    def grows(self, program, hand, machine, steps=8):
        """Hold grown against going row by row, and what is told of it; tell it."""
        told = grown(program, hand, machine)
        self.assertEqual(told, least(grown_plainly(program, hand, machine)))
        self.assertEqual(least(told), told)
        self.assertIs(is_closed(program, hand, told), True)
        self.assertEqual(grown(program, hand, told), told)
        for control, pile in gone(program, hand, all_read(machine, points_of(machine), 2), steps):
            self.assertTrue(read_by(told, control, pile))
        return told

    def leads(self, program, hand, machine, control, pile):
        """Hold a stretch against going row by row; tell its choices."""
        told = stretch(program, hand, machine, control, pile)
        self.assertIsInstance(told, tuple)
        begin, start, choices = told
        self.assertIsInstance(choices, list)
        self.assertTrue(read_by(machine, begin, start))
        self.assertEqual(gone_by(program, hand, begin, start, choices), (control, pile))
        if read_by(machine, control, pile):
            self.assertEqual(told, (control, pile, []))
        return choices


class Grown(Checks):
    def test_every_kind_of_row_and_source(self):
        for row in ROWS:
            with self.subTest(row):
                program = one_hand([row, BACK], (("a", 2),), (("x", 3),))
                self.grows(program, 0, at_first((1, 1, 0)))
                self.grows(program, 0, machine_of([((2, 1, 1), 0), ((0, 1, 0), 0)], [(0, (0, 0), 1), (1, (0, 1), 1)], [1]))

    def test_a_row_that_begins_a_hand(self):
        program = of_hands([[("begin", "handb")]], [[BACK]])
        told = self.grows(program, 0, at_first((1, 0)))
        self.assertEqual(told, machine_of([((1, 0), 0), ((1, 1), 1)], [(0, (0, 0), 2), (1, (0, 1), 2)], [1, 2]))

    def test_nothing_read_and_nothing_to_be_done(self):
        self.assertEqual(grown(RICH, 0, EMPTY), EMPTY)
        self.assertEqual(grown(program=RICH, hand=2, machine=((((9,), 0),), ((0, (9, 9), 0),), ())), EMPTY)
        over = machine_of([((0, 0, 0, 1, 1, 1), 3)], [], [3])
        self.assertEqual(grown(RICH, 2, over), least(over))

    def test_just_what_is_come_to(self):
        program = of_hands([[("go", (1, 2)), ("set", "x", ("to", 1)), ("wait", "x", 1)]], boxes=(("x", 2),))
        told = self.grows(program, 0, at_first((0, 1)))
        found = {(control, pile) for control in ((0, 1), (1, 1)) for pile in all_piles([(0, row) for row in range(4)], 2)
                 if reads(told, control, pile)}
        first = {((0, 1), ((0, row),)) for row in (0, 1, 2)}
        self.assertEqual(found, first | {((1, 1), ((0, 2),)), ((1, 1), ((0, 3),)), ((1, 1), ())})
        self.assertEqual(found, gone(program, 0, [((0, 1), ((0, 0),))], 20))

    def test_calls_within_calls(self):
        program = of_hands([[("call", "b"), ("set", "x", ("on", 1))], [("call", "c"), ("call", "c")], [("set", "x", ("on", 1))]],
                           boxes=(("x", 4),))
        told = self.grows(program, 0, at_first((0, 1)), 30)
        found = gone(program, 0, [((0, 1), ((0, 0),))], 50)
        self.assertEqual(set(all_read(told, points_of(told), 3)), found)
        self.assertIn(((3, 1), ()), found)

    def test_a_text_that_calls_itself(self):
        told = self.grows(DEEP, 0, at_first((1,)))
        for deep in (0, 1, 2, 40):
            for row in range(4):
                self.assertIs(reads(told, (1,), ((0, row),) + ((0, 2),) * deep), row != 2)
        self.assertIs(reads(told, (1,), ()), False)
        # With a way back all of it can be left again.
        program = one_hand([("go", (1, 2)), ("call", "top")])
        told = self.grows(program, 0, at_first((1,)))
        for deep in (1, 2, 40):
            self.assertIs(reads(told, (1,), ((0, 2),) * deep), True)
        self.assertIs(reads(told, (1,), ()), True)

    def test_the_pile_under_the_first_point_is_gone_on_by(self):
        program = of_hands([[BACK, ("set", "x", ("to", 1)), FAULT]], boxes=(("x", 2),))
        machine = machine_of([((0, 1), 0)], [(0, (0, 0), 1), (1, (0, 0), 1), (1, (0, 1), 2)], [2])
        told = self.grows(program, 0, machine)
        for many in range(5):
            self.assertIs(reads(told, (0, 1), ((0, 0),) * many + ((0, 1),)), True)
        self.assertIs(reads(told, (1, 1), ((0, 2),)), True)
        self.assertIs(reads(told, (1, 1), ((0, 0), (0, 2))), False)

    def test_edges_that_lead_back_to_a_begin(self):
        program = of_hands([[("set", "x", ("on", 1))]], boxes=(("x", 3),))
        machine = machine_of([((0, 1), 0)], [(0, (0, 0), 0), (0, (0, 1), 0)], [0])
        told = self.grows(program, 0, machine)
        self.assertIs(reads(told, (1, 1), ((0, 1), (0, 0))), True)
        self.assertIs(reads(told, (0, 1), ((0, 1), (0, 1), (0, 0))), True)

    def test_programs_by_chance(self):
        for chance, program, hand in small_programs(31, 120):
            machine = some_turn(chance, program, hand)
            told = self.grows(program, hand, machine, 6)
            self.assertEqual(grown(program, hand, least(machine)), told)
            self.assertEqual(grown(program, hand, twice(machine)), told)
            names = {state: 3 * state + 2 for state in states_in(machine)}
            self.assertEqual(grown(program, hand, renumbered(machine, names)), told)
            dead = machine_of([((5,), 90)], [(90, (70, 70), 91), (91, (0, 0), 90)], [])
            self.assertEqual(grown(program, hand, joined(machine, dead)), told)

    def test_just_what_is_come_to_by_chance(self):
        seen = 0
        for chance, program, hand in small_programs(32, 150):
            machine = least(some_turn(chance, program, hand))
            starts = all_read(machine, points_of(machine), 4)
            if len(starts) > 5 or any(state == other for state, point, other in machine[1]) or len(machine[2]) != 1:
                continue
            found = gone(program, hand, starts, 12)
            if len(found) < 200 and found == gone(program, hand, starts, 13):
                told = grown(program, hand, machine)
                most = max(len(pile) for control, pile in found) + 1
                if len(points_of(told)) ** most < 5000 and set(starts) == set(all_read(machine, points_of(machine), 6)):
                    seen += 1
                    self.assertEqual(set(all_read(told, points_of(told), most)), found)
        self.assertGreater(seen, 10)


class TooManyEdges(unittest.TestCase):
    def test_refused(self):
        begin = at_first((1,) + (0,) * 8)
        for ask in (lambda: grown(BIG, 0, begin), lambda: stretch(BIG, 0, begin, (1,) + (7,) * 8, ((0, 8),))):
            with self.assertRaises(TooMany) as caught:
                ask()
            self.assertEqual(caught.exception.many, 40000)
        self.assertIsNone(fault_in(BIG, 0, begin))
        self.assertEqual(stretch(BIG, 0, begin, (1,) + (0,) * 8, ((0, 0),)), ((1,) + (0,) * 8, ((0, 0),), []))

    def test_never_of_a_dozen_states_and_two_dozen_controls(self):
        chance = random.Random(33)
        points = [(text, row) for text in range(2) for row in range(5)]
        controls = [(x, 1, a) for x in range(4) for a in range(6)]
        rows = [("set", "x", ("any",)), ("set", "a", ("any",)), ("set", "a", ("on", 1)), ("call", "top"), ("call", "sub"),
                ("go", (0, 1, 2, 3)), ("go", (1, 2, 3, 4)), BACK]
        for many in (30, 200, 1440):
            for count in range(4):
                texts = tuple((name, tuple(chance.choice(rows) for row in range(4))) for name in ("top", "sub"))
                program = ((("x", 4),), (("main", (("a", 6),), texts),))
                edges = [(chance.randrange(12), chance.choice(points), chance.randrange(12)) for edge in range(many)]
                begins = [(chance.choice(controls), chance.randrange(12)) for begin in range(60)]
                machine = machine_of(begins, edges, [0, 5])
                self.assertIs(is_closed(program, 0, grown(program, 0, machine)), True)


class FaultIn(unittest.TestCase):
    program = of_hands([[FAULT, BACK, FAULT], [BACK, FAULT]], [[BACK, FAULT]], boxes=(("x", 2),))

    def plainly(self, program, hand, machine, most=3):
        texts = program[1][hand][2]
        faults = {(text, row) for text in range(len(texts)) for row, known in enumerate(texts[text][1]) if known == FAULT}
        found = [there for there in all_read(machine, points_of(machine), most) if there[1] and there[1][0] in faults]
        return found[0] if found else None

    def tells(self, machine, wanted, hand=0):
        self.assertEqual(fault_in(self.program, hand, machine), wanted)
        self.assertEqual(self.plainly(self.program, hand, machine), wanted)

    def test_none(self):
        self.tells(EMPTY, None)
        self.tells(machine_of([((0, 1, 1), 0)], [(0, (0, 1), 1), (0, (1, 0), 1)], [0, 1]), None)

    def test_one_that_is_not_a_piles_first_point(self):
        machine = machine_of([((0, 1, 1), 0)], [(0, (0, 1), 1), (1, (0, 0), 2), (2, (0, 2), 2)], [2])
        self.tells(machine, None)
        self.tells(machine_of([((0, 1, 1), 1)], machine[1], [2]), ((0, 1, 1), ((0, 0),)))

    def test_controls_first_then_points_then_as_tuples_are_sorted(self):
        edges = [(0, (0, 1), 9), (1, (0, 2), 5), (1, (1, 1), 6), (5, (1, 0), 9), (6, (0, 1), 9), (2, (0, 0), 9)]
        begins = [((0, 1, 0), 0), ((0, 1, 1), 1), ((1, 1, 0), 2)]
        self.tells(machine_of(begins, edges, [9]), ((0, 1, 1), ((0, 2), (1, 0))))
        self.tells(machine_of(begins, edges[:1] + edges[2:], [9]), ((0, 1, 1), ((1, 1), (0, 1))))
        self.tells(machine_of(begins, edges, [6, 9]), ((0, 1, 1), ((1, 1),)))
        self.tells(machine_of(begins, edges + [(7, (0, 0), 9)], [9]), ((0, 1, 1), ((0, 2), (1, 0))))
        self.tells(machine_of(begins + [((0, 1, 0), 2)], edges, [9]), ((0, 1, 0), ((0, 0),)))
        self.tells(machine_of(begins[::2], edges, [9]), ((1, 1, 0), ((0, 0),)))

    def test_several_states_of_a_control_go_on_together(self):
        edges = [(0, (0, 0), 3), (1, (0, 0), 4), (3, (1, 0), 5), (3, (0, 0), 8), (4, (0, 1), 5), (4, (0, 0), 8)]
        self.tells(machine_of([((0, 1, 1), 0), ((0, 1, 1), 1)], edges, [5]), ((0, 1, 1), ((0, 0), (0, 1))))

    def test_states_from_which_nothing_is_read(self):
        self.tells(machine_of([((0, 1, 1), 0), ((9,), 3)], [(0, (0, 0), 1), (0, (0, 1), 2), (3, (0, 0), 1)], [2]), None)

    def test_another_hand(self):
        machine = machine_of([((0, 1, 1), 0)], [(0, (0, 0), 1), (0, (0, 1), 1)], [1])
        self.tells(machine, ((0, 1, 1), ((0, 1),)), 1)
        self.assertEqual(fault_in(program=self.program, hand=0, machine=machine), ((0, 1, 1), ((0, 0),)))

    def test_programs_by_chance(self):
        found = 0
        for chance, program, hand in small_programs(34, 400):
            machine = some_turn(chance, program, hand)
            for known in (machine, grown(program, hand, machine)):
                if len(points_of(known)) < 9:
                    told = fault_in(program, hand, known)
                    wanted = self.plainly(program, hand, known)
                    if told is None or len(told[1]) <= 3:
                        self.assertEqual(told, wanted)
                    found += told is not None
        self.assertGreater(found, 20)


class Stretch(Checks):
    def test_what_the_machine_itself_reads(self):
        machine = machine_of([((1,), 0)], [(0, (0, 0), 1), (1, (0, 2), 1)], [1])
        for many in range(4):
            pile = ((0, 0),) + ((0, 2),) * many
            self.assertEqual(stretch(DEEP, 0, machine, (1,), pile), ((1,), pile, []))

    def test_deep_piles(self):
        for many in (1, 2, 7, 60, 500):
            pile = ((0, 3),) + ((0, 2),) * many
            choices = self.leads(DEEP, 0, at_first((1,)), (1,), pile)
            self.assertEqual(choices, [1, None] * many + [3])

    def test_a_pile_that_was_deep_ahead(self):
        program = of_hands([[BACK, ("set", "x", ("on", 1))]], boxes=(("x", 4),))
        machine = machine_of([((0, 1), 0)], [(0, (0, 0), 0), (0, (0, 1), 1), (1, (0, 1), 1)], [1])
        self.assertEqual(self.leads(program, 0, machine, (3, 1), ((0, 2),)), [None] * 5)
        self.assertEqual(self.leads(program, 0, machine, (3, 1), ()), [None] * 6)
        self.assertEqual(self.leads(program, 0, machine, (0, 1), ()), [None] * 8)

    def test_where_a_hand_is_over(self):
        program = one_hand([("go", (1, 2)), ("call", "top")])
        self.leads(program, 0, at_first((1,)), (1,), ())
        over = machine_of([((1,), 0)], [(0, (0, 0), 1)], [0, 1])
        self.assertEqual(stretch(program, 0, over, (1,), ()), ((1,), (), []))

    def test_calls_within_calls(self):
        program = of_hands([[("call", "b"), ("set", "x", ("on", 1))], [("call", "c"), ("call", "c")], [("set", "x", ("on", 1))]],
                           boxes=(("x", 4),))
        for control, pile in gone(program, 0, [((0, 1), ((0, 0),))], 60):
            self.leads(program, 0, at_first((0, 1)), control, pile)

    def test_none_where_nothing_leads(self):
        begin = at_first((1,))
        for control, pile in (((1,), ()), ((1,), ((0, 2),)), ((0,), ((0, 0),)), ((), ((0, 0),)), ((1, 1), ((0, 0),)), ((1,), ((0, 4),)),
                              ((1,), ((1, 0),)), ((1,), ((0, 3), (0, 3))), ((1,), ((0, 2),) * 50)):
            self.assertIsNone(stretch(program=DEEP, hand=0, machine=begin, control=control, pile=pile))
        self.assertIsNone(stretch(DEEP, 0, EMPTY, (1,), ()))
        self.assertIsNone(stretch(DEEP, 0, EMPTY, (1,), ((0, 0),)))

    def test_told_lists_are_new_ones(self):
        begin = at_first((1,))
        for pile in (((0, 0),), ((0, 3), (0, 2))):
            told = stretch(DEEP, 0, begin, (1,), pile)
            wanted = list(told[2])
            told[2].append(None)
            self.assertEqual(stretch(DEEP, 0, begin, (1,), pile)[2], wanted)

    def test_programs_by_chance(self):
        many = 0
        for chance, program, hand in small_programs(35, 250):
            machine = some_turn(chance, program, hand)
            told = grown(program, hand, machine)
            points = chance.sample(points_of(told), min(4, len(points_of(told))))
            every = [(control, pile) for control, state in told[0] for pile in all_piles(points, 3)]
            for control, pile in chance.sample(every, min(30, len(every))):
                if read_by(told, control, pile):
                    many += len(self.leads(program, hand, machine, control, pile))
                else:
                    self.assertIsNone(stretch(program, hand, machine, control, pile))
        self.assertGreater(many, 500)


class Refusals(unittest.TestCase):
    machine = at_first((0, 0, 0, 1, 0, 1))

    def asks(self):
        return [grown, fault_in, lambda program, hand, machine: stretch(program, hand, machine, (0, 0, 0, 1, 0, 1), ((0, 0),))]

    def test_no_program_first(self):
        for ask in self.asks():
            for thing in anything():
                with self.assertRaises(NoProgram):
                    ask(thing, thing, thing)
            with self.assertRaises(NoProgram):
                ask(RICH[:1] + (RICH[1][:1],), 7, None)

    def test_then_no_hand(self):
        for ask in self.asks():
            for thing in never() + [3, 10 ** 29, "main", (), (0,)]:
                with self.assertRaises(NoHand) as caught:
                    ask(RICH, thing, thing)
                self.assertIs(caught.exception.hand, thing)

    def test_then_no_machine(self):
        for ask in self.asks():
            for thing in anything():
                if not (isinstance(thing, tuple) and len(thing) == 3 and all(part == () for part in thing)):
                    with self.assertRaises(NoMachine):
                        ask(RICH, 2, thing)
            for path in paths(self.machine):
                for thing in never():
                    with self.assertRaises(NoMachine):
                        ask(RICH, 2, replaced(self.machine, path, thing))
                if type(item_at(self.machine, path)) is int:
                    with self.assertRaises(NoMachine):
                        ask(RICH, 2, replaced(self.machine, path, bool(item_at(self.machine, path))))

    def test_machines_of_no_turn_of_the_hand(self):
        control = (0, 0, 0, 1, 0, 1)
        for wrong in (at_first(()), at_first((0, 0, 0, 1, 0, 0)), at_first((2, 0, 0, 1, 0, 1)), at_first((-1, 0, 0, 1, 0, 1)),
                      at_first(control + (0,)), at_first(control[:-1]), machine_of([(control, 0)], [(0, (0, 3), 1)], [1]),
                      machine_of([(control, 0)], [(0, (1, 0), 1)], [1]), machine_of([(control, 0)], [(0, (0, 0), 1), (7, (5, 5), 1)], [1])):
            self.assertFalse(is_turn_of(RICH, 2, wrong))
            for ask in self.asks():
                with self.assertRaises(NoMachine):
                    ask(RICH, 2, wrong)

    def test_of_states_from_which_nothing_is_read_nothing_is_asked(self):
        dead = machine_of([((), 7), ((9, -9), 8)], [(7, (5, 5), 8), (8, (0, 9), 7), (0, (3, 3), 8)], [])
        for ask in self.asks():
            self.assertEqual(ask(RICH, 2, joined(self.machine, dead)), ask(RICH, 2, self.machine))
        self.assertEqual(living(joined(self.machine, dead)), {0, 1})


if __name__ == "__main__":
    unittest.main()
