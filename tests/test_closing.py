"""Closed machines of a hand's turn."""

import random
import unittest

from fewturnsover.closing import is_closed
from fewturnsover.errors import NoHand, NoProgram
from fewturnsover.least import least
from tests.machining import (
    all_read, closed_plainly, each_without, gone, grown_plainly, joined, living, machine_of, points_of, read_by, renumbered,
    states_in, twice,
)
from tests.reference import some_program
from tests.samples import BACK, DEEP, FAULT, RICH, anything, item_at, never, of_hands, one_hand, paths, replaced

EMPTY = ((), (), ())


def at_first(control, state=0):
    """Reads a control with the pile at first."""
    return machine_of([(control, state)], [(state, (0, 0), state + 1)], [state + 1])


def some_turn(chance, program, hand):
    """A machine of a hand's turn, drawn; perhaps with states from which nothing is read."""
    boxes, hands = program
    name, own, texts = hands[hand]
    begins = []
    for count in range(chance.randint(1, 2)):
        common = [chance.randrange(size) for box, size in boxes] + [chance.randint(0, 1) for other in hands]
        common[len(boxes) + hand] = 1
        begins.append((tuple(common + [chance.randrange(size) for box, size in own]), chance.randint(0, 1)))
    points = [(text, row) for text in range(len(texts)) for row in range(len(texts[text][1]) + 1)]
    edges = [(chance.randint(0, 3), chance.choice(points), chance.randint(0, 3)) for count in range(chance.randint(1, 4))]
    return machine_of(begins, edges + [(0, chance.choice(points), 2)], [2])


def small_programs(seed, many):
    """Programs with few controls, so that plain ways end soon; each with a hand."""
    chance = random.Random(seed)
    while many:
        program = some_program(chance)
        hand = chance.randrange(len(program[1]))
        sizes = [size for name, size in program[0] + program[1][hand][1]]
        controls = 1
        for size in sizes:
            controls *= size
        if controls <= 24:
            many -= 1
            yield chance, program, hand


class Refusals(unittest.TestCase):
    machine = grown_plainly(RICH, 2, at_first((0, 0, 0, 1, 0, 1)))

    def test_no_program_first(self):
        for thing in anything():
            with self.assertRaises(NoProgram):
                is_closed(thing, thing, thing)

    def test_then_no_hand(self):
        for thing in never() + [3, 4, 10 ** 29, "a", "third", (), (2,)]:
            with self.assertRaises(NoHand) as caught:
                is_closed(RICH, thing, self.machine)
            self.assertIs(caught.exception.hand, thing)
            with self.assertRaises(NoHand):
                is_closed(program=RICH, hand=thing, thing=thing)

    def test_things_of_every_kind_as_the_machine(self):
        self.assertIs(is_closed(RICH, 2, self.machine), True)
        for thing in anything():
            empty = isinstance(thing, tuple) and len(thing) == 3 and all(part == () for part in thing)
            self.assertIs(is_closed(RICH, 2, thing), empty)
        for path in paths(self.machine):
            for thing in never():
                # A number below 0 in the control of a state from which nothing is read would be let by.
                self.assertIs(is_closed(RICH, 2, replaced(self.machine, path, thing)), False)

    def test_truths_and_lists(self):
        for path in paths(self.machine):
            item = item_at(self.machine, path)
            if type(item) is int and item in (0, 1):
                self.assertIs(is_closed(RICH, 2, replaced(self.machine, path, bool(item))), False)
            elif isinstance(item, tuple):
                self.assertIs(is_closed(RICH, 2, replaced(self.machine, path, list(item))), False)


class Closed(unittest.TestCase):
    def lets(self, wanted, program, hand, machine):
        self.assertIs(is_closed(program, hand, machine), wanted, machine)
        self.assertIs(closed_plainly(program, hand, machine), wanted)

    def one(self, row, rows=2, own=(("a", 2),), boxes=(("x", 3),)):
        """The closed machine of a program of one hand, the row first and backs behind, each part left out in turn."""
        program = one_hand([row] + [BACK] * (rows - 1), own, boxes)
        for machine in (grown_plainly(program, 0, at_first((1, 1, 0))), least(grown_plainly(program, 0, at_first((1, 1, 0))))):
            self.lets(True, program, 0, machine)
            for less in each_without(machine):
                wanted = closed_plainly(program, 0, less)
                self.assertIs(is_closed(program, 0, less), wanted)
                self.sound(program, 0, less, wanted)
        return program

    def sound(self, program, hand, machine, closed):
        """What is let by reads all that the hand comes to from what it reads."""
        if closed:
            for control, pile in gone(program, hand, all_read(machine, points_of(machine), 2), 6):
                self.assertTrue(read_by(machine, control, pile))

    def test_every_kind_of_row(self):
        for row in (("set", "x", ("to", 2)), ("set", "x", ("of", "a")), ("set", "x", ("on", 2)), ("set", "a", ("any",)),
                    ("set", "x", ("any",)), ("if", "x", 1, 0), ("if", "x", 1, 2), ("if", "x", 0, 2), ("go", (0, 1, 2)), ("go", (2,)),
                    ("call", "top"), BACK, ("wait", "x", 1), ("wait", "x", 2), FAULT):
            with self.subTest(row):
                self.one(row)

    def test_a_row_that_begins_a_hand(self):
        program = of_hands([[("begin", "handb")]], [[BACK]])
        machine = grown_plainly(program, 0, at_first((1, 0)))
        self.assertEqual({control for control, state in machine[0]}, {(1, 0), (1, 1)})
        self.lets(True, program, 0, machine)
        self.lets(False, program, 0, at_first((1, 0)))
        self.lets(True, program, 0, grown_plainly(program, 0, at_first((1, 1))))

    def test_each_demand_of_a_step(self):
        program = of_hands([[("go", (1, 2)), ("call", "b")], [BACK]])
        edges = [(0, (0, 0), 9), (0, (0, 1), 9), (0, (0, 2), 9), (0, (1, 0), 5), (5, (0, 2), 9), (0, (1, 1), 5)]
        whole = machine_of([((1,), 0)], edges[:5], [0, 9])
        self.lets(True, program, 0, whole)
        for edge in edges[1:5]:
            self.lets(False, program, 0, machine_of(whole[0], set(whole[1]) - {edge}, whole[2]))
        # Behind (0, 2) and (1, 0) the pile is what was under the first point.
        self.lets(False, program, 0, machine_of(whole[0], whole[1], [9]))
        self.lets(True, program, 0, machine_of(whole[0], edges, [0, 9]))

    def test_a_call_goes_by_two_edges(self):
        program = of_hands([[("call", "b"), FAULT], [FAULT]])
        good = machine_of([((1,), 0)], [(0, (0, 0), 2), (0, (1, 0), 1), (1, (0, 1), 2)], [2])
        self.lets(True, program, 0, good)
        self.lets(False, program, 0, machine_of(good[0], [(0, (0, 0), 2), (0, (1, 0), 1), (1, (0, 0), 2)], [2]))
        self.lets(False, program, 0, machine_of(good[0], [(0, (0, 0), 2), (0, (1, 0), 1), (1, (0, 1), 3)], [2]))
        # Over the target is enough: 3 is an end and reads more.
        more = machine_of(good[0], [(0, (0, 0), 2), (0, (1, 0), 1), (1, (0, 1), 3), (3, (1, 0), 3)], [2, 3])
        self.lets(True, program, 0, more)
        self.lets(False, program, 0, machine_of(good[0], [(0, (0, 0), 3), (0, (1, 0), 1), (1, (0, 1), 2), (3, (1, 0), 3)], [2, 3]))

    def test_some_state_of_the_control(self):
        program = of_hands([[("set", "x", ("to", 1)), FAULT]], boxes=(("x", 2),))
        edges = [(0, (0, 0), 9), (1, (0, 2), 9), (2, (0, 1), 9), (3, (0, 1), 8)]
        self.lets(False, program, 0, machine_of([((0, 1), 0), ((1, 1), 0)], edges, [9]))
        self.lets(False, program, 0, machine_of([((0, 1), 0), ((1, 1), 1), ((0, 1), 2)], edges[:1] + edges[2:], [9]))
        self.lets(True, program, 0, machine_of([((0, 1), 0), ((1, 1), 2)], edges, [9]))
        self.lets(True, program, 0, machine_of([((0, 1), 0), ((1, 1), 2), ((1, 1), 3)], edges, [9]))
        self.lets(False, program, 0, machine_of([((0, 1), 0), ((1, 1), 3)], edges, [9]))

    def test_a_pile_that_grows_without_end(self):
        machine = grown_plainly(DEEP, 0, at_first((1,)))
        self.lets(True, DEEP, 0, machine)
        self.assertTrue(read_by(machine, (1,), ((0, 3),) + ((0, 2),) * 50))
        for less in each_without(least(machine)):
            self.lets(closed_plainly(DEEP, 0, less), DEEP, 0, less)

    def test_states_over_one_another_by_rings(self):
        program = of_hands([[("go", (1,)), ("wait", "x", 1)]], boxes=(("x", 2),))
        step = [(0, (0, 0), 2), (0, (0, 1), 3)]
        ring = [(2, (0, 0), 2), (3, (0, 0), 4), (4, (0, 0), 3)]
        self.lets(True, program, 0, machine_of([((0, 1), 0)], step + ring, [2, 3, 4]))
        self.lets(False, program, 0, machine_of([((0, 1), 0)], step + ring, [2, 3]))
        self.lets(True, program, 0, machine_of([((0, 1), 0)], step + ring, [3, 4]))
        self.lets(False, program, 0, machine_of([((0, 1), 0)], step + ring[:2], [2, 3, 4]))

    def test_an_over_by_each_step_is_asked_for(self):
        # 3 and 4 together read all that 2 reads, but neither is over it.
        program = of_hands([[("go", (1,)), ("wait", "x", 1)]], boxes=(("x", 2),))
        edges = [(0, (0, 0), 2), (0, (0, 1), 3), (0, (0, 1), 4), (2, (0, 0), 5), (2, (0, 1), 5), (3, (0, 0), 5), (4, (0, 1), 5)]
        self.lets(False, program, 0, machine_of([((0, 1), 0)], edges, [5]))
        self.lets(True, program, 0, least(machine_of([((0, 1), 0)], edges, [5])))


class Forms(unittest.TestCase):
    """Controls and points of states from which something is read; of others nothing is asked."""

    program = ((("x", 3),), (("one", (("a", 2),), (("top", (FAULT, FAULT)),)), ("two", (), (("top", (FAULT,)),))))
    control = (2, 1, 0, 1)

    def lets(self, wanted, machine, hand=0):
        self.assertIs(is_closed(self.program, hand, machine), wanted, machine)
        self.assertIs(closed_plainly(self.program, hand, machine), wanted)

    def test_controls(self):
        self.lets(True, at_first(self.control))
        for at, size in enumerate((3, 2, 2, 2)):
            for value in range(-1, size + 2):
                control = replaced(self.control, (at,), value)
                self.lets(0 <= value < size and not (at == 1 and value == 0), at_first(control))
        for control in ((), self.control[:-1], self.control + (0,), (2, 1, 0), (2, 1, 0, 1, 0, 0)):
            self.lets(False, at_first(control))

    def test_the_hands_own_number(self):
        self.lets(False, at_first((0, 0, 1, 0)))
        self.lets(True, at_first((0, 1, 1, 0)))
        self.lets(False, at_first((0, 1, 0)), 1)
        self.lets(True, at_first((0, 0, 1)), 1)
        self.lets(False, at_first((0, 0, 1, 0)), 1)

    def test_controls_from_which_nothing_is_read(self):
        for control in ((), (9,), (-1, 1, 1, 1), (0, 0, 0, 0), (3, 1, 0, 1), (0,) * 9):
            whole = at_first(self.control)
            self.lets(True, joined(whole, ((((control), 7),), ((7, (0, 0), 8), (8, (5, 5), 7)), ())))
            self.lets(False, joined(whole, ((((control), 7),), ((7, (0, 0), 8),), (8,))))
            self.lets(False, joined(whole, ((((control), 7),), (), (7,))))

    def test_points(self):
        for point in ((0, 0), (0, 1), (0, 2), (0, 3), (1, 0), (2, 0), (0, 10 ** 9)):
            mine = point[0] == 0 and point[1] <= 2
            edges = ((0, point, 1), (1, point, 2))
            self.lets(mine and point != (0, 2), machine_of([(self.control, 0)], edges, [2]))
            # Whatever the state is from which the edge goes, if an end can be come to behind it.
            self.lets(mine, joined(at_first(self.control), ((), ((5, point, 1),), ())))
            self.lets(True, joined(at_first(self.control), ((), ((5, point, 6), (0, point, 6), (1, point, 6), (6, point, 5)), ())))

    def test_nothing_read(self):
        self.lets(True, EMPTY)
        self.lets(True, ((((9, 9), 0),), ((0, (9, 9), 0),), ()))
        self.lets(True, ((), (), (0,)))
        self.lets(False, ((), ((0, (9, 9), 1),), (1,)))


class ByChance(unittest.TestCase):
    def test_grown_ones_are_closed(self):
        for chance, program, hand in small_programs(21, 60):
            machine = grown_plainly(program, hand, some_turn(chance, program, hand))
            self.assertIs(is_closed(program, hand, machine), True)
            self.assertIs(is_closed(program, hand, least(machine)), True)
            self.assertIs(is_closed(program, hand, renumbered(machine, {state: 2 * state + 3 for state in states_in(machine)})), True)
            if len(machine[1]) < 40:
                self.assertIs(is_closed(program, hand, twice(machine)), True)

    def test_as_the_words_say(self):
        kinds = {True: 0, False: 0}
        for chance, program, hand in small_programs(22, 60):
            machine = some_turn(chance, program, hand)
            whole = least(grown_plainly(program, hand, machine))
            if not 1 <= len(whole[1]) <= 30:
                continue
            found = [machine, whole, joined(whole, machine)]
            every = list(each_without(whole))
            found += chance.sample(every, min(12, len(every)))
            for count in range(4):
                edge = (chance.choice(states_in(whole)), chance.choice(points_of(whole)), chance.choice(states_in(whole) + [99]))
                found.append(machine_of(whole[0], whole[1] + (edge,), whole[2]))
                found.append(machine_of(whole[0], whole[1], whole[2] + (chance.choice(states_in(whole)),)))
                found.append(machine_of(whole[0] + ((whole[0][0][0], chance.choice(states_in(whole))),), whole[1], whole[2]))
            for one in found:
                wanted = closed_plainly(program, hand, one)
                kinds[wanted] += 1
                self.assertIs(is_closed(program, hand, one), wanted)
        self.assertGreater(min(kinds.values()), 50)

    def test_what_is_let_by_reads_all_that_is_come_to(self):
        seen = 0
        for chance, program, hand in small_programs(23, 80):
            machine = joined(least(grown_plainly(program, hand, some_turn(chance, program, hand))), some_turn(chance, program, hand))
            if is_closed(program, hand, machine) and len(points_of(machine)) < 8:
                seen += 1
                for control, pile in gone(program, hand, all_read(machine, points_of(machine), 2), 5):
                    self.assertTrue(read_by(machine, control, pile))
        self.assertGreater(seen, 5)

    def test_asked_twice(self):
        for chance, program, hand in small_programs(24, 10):
            machine = some_turn(chance, program, hand)
            self.assertIs(is_closed(program, hand, machine), is_closed(program, hand, machine))
            self.assertTrue(living(machine))


if __name__ == "__main__":
    unittest.main()
