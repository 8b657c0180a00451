"""Programs made of one hand for an order of turns, and their runs led back."""

import random
import unittest

from fewturnsover.errors import NoOrder, NoProgram, NoRun, TooMany
from fewturnsover.onehand import led_back, one_hand
from fewturnsover.programs import look_at_program
from fewturnsover.runs import is_faulty, stands_of
from fewturnsover.told import least_turns, told
from tests.ordering import all_orders, faults_by_order, faults_by_stands, is_part_of, order_program, relay_program
from tests.reference import faulty_of, first_of, steps_of
from tests.samples import BACK, DEEP, FAULT, RICH, TWO, anything, never, of_hands
from tests.samples import one_hand as with_one_hand
from tests.test_books import BEGUN, THREE
from tests.test_endless import AT_FIRST, NOBODY, NO_HAND
from tests.test_folding import ONE_ANOTHER
from tests.test_told import BEGIN_FAULT, CALLS, SAFE, TURNS

# The first hand is begun behind its own turn in the order (1, 0), ahead of it in (0, 1).
BEGINS = of_hands([[("begin", "handb"), ("wait", "x", 1), FAULT]], [[("set", "x", ("to", 1))]], boxes=(("x", 2),))
# Two hands that share nothing, one that faults with its own box.
ALONE = ((), (("one", (("a", 3),), (("top", (("set", "a", ("any",)), ("if", "a", 2, 3), BACK, FAULT)),)), ("two", (), (("top", (BACK,)),))))
# It faults only if what it sees changes within one and the same turn of its own: never.
ATOMIC = of_hands([[("wait", "x", 0), ("if", "x", 1, 3), BACK, FAULT]], [[("set", "x", ("on", 1)), ("go", (0,))]], boxes=(("x", 2),))


class Made(unittest.TestCase):
    def makes(self, program, order):
        """Make the program, look at it, and tell whether a fault can be come to in it; lead its run back."""
        made = one_hand(program, order)
        self.assertIsNone(look_at_program(made))
        self.assertEqual((made[0], len(made[1])), ((), 1))
        found = least_turns(made, 1)
        if found is not None:
            self.leads(program, order, found[1])
        return found is not None

    def leads(self, program, order, run):
        """Hold a faulty run of the made program, led back, against the words; row by row."""
        back = led_back(program, order, run)
        self.assertIsInstance(back, list)
        self.assertIs(is_faulty(program, back), True)
        stand = first_of(program)
        for hand, choices in back:
            self.assertTrue(choices)
            for choice in choices:
                stand = dict(steps_of(program, stand, hand))[choice]
        self.assertIsNotNone(faulty_of(program, stand))
        self.assertEqual(stands_of(program, back)[-1], stand)
        self.assertTrue(is_part_of([hand for hand, choices in back], order), (order, back))
        return back


class Ordinary(Made):
    def orders(self, program, most):
        return {order: self.makes(program, order) for order in all_orders(len(program[1]), most)}

    def holds(self, program, most=3):
        found = self.orders(program, most)
        for order, faulty in found.items():
            self.assertIs(faulty, faults_by_order(program, order), order)
        return found

    def test_the_fault_is_at_first(self):
        self.assertEqual(set(self.holds(AT_FIRST).values()), {True})
        self.assertEqual(led_back(AT_FIRST, (0, 1), []), [])

    def test_two_turns(self):
        found = self.holds(TWO)
        self.assertEqual([order for order in found if found[order] and len(order) < 3], [(0, 1)])
        self.assertEqual([order for order in found if found[order]], [(0, 1), (0, 0, 1), (0, 1, 0), (0, 1, 1), (1, 0, 1)])

    def test_more_turns(self):
        for program in (THREE, CALLS, SAFE, NOBODY, DEEP, ALONE, ATOMIC):
            self.holds(program, 4)
        self.assertIs(self.makes(TURNS, (0, 1, 0, 1, 0)), True)
        self.assertIs(self.makes(TURNS, (0, 1, 0, 0, 1, 0)), True)
        self.assertIs(self.makes(TURNS, (1, 0, 1, 0, 1, 0)), True)
        for order in ((0, 1, 0, 1), (1, 0, 1, 0, 1), (0, 1, 0, 1, 1, 1), (0, 0, 1, 1, 0, 0), (1, 0, 1, 1, 0, 1), (0,) * 6, (1,) * 6):
            self.assertIs(self.makes(TURNS, order), False)

    def test_one_hands_turns_one_behind_the_other(self):
        for program in (TWO, THREE, CALLS):
            for order in all_orders(2, 4):
                short = [hand for at, hand in enumerate(order) if at == 0 or order[at - 1] != hand]
                self.assertIs(self.makes(program, order), self.makes(program, tuple(short)))

    def test_hands_begun_ahead_and_behind(self):
        found = self.holds(BEGINS)
        self.assertEqual([order for order in found if found[order]], [(0, 1, 0)])
        self.holds(BEGUN)
        self.holds(BEGIN_FAULT)
        self.holds(ONE_ANOTHER)
        self.holds(NO_HAND)
        self.assertIs(self.makes(BEGUN, (1, 0, 2)), False)
        self.assertIs(self.makes(BEGUN, (2, 0, 1)), True)
        self.assertIs(self.makes(BEGIN_FAULT, (2, 0)), True)
        self.assertIs(self.makes(BEGIN_FAULT, (0, 2)), False)

    def test_every_row_and_source(self):
        for order in all_orders(3, 2):
            self.assertIs(self.makes(RICH, order), faults_by_order(RICH, order))

    def test_by_names(self):
        self.assertEqual(one_hand(program=TWO, order=(0, 1)), one_hand(TWO, (0, 1)))
        run = told(one_hand(TWO, (0, 1)), (1, (None,)))[1]
        wanted = led_back(TWO, (0, 1), run)
        back = led_back(program=TWO, order=(0, 1), run=run)
        self.assertEqual(back, wanted)
        for hand, choices in back:
            choices.clear()
        back.clear()
        self.assertEqual(led_back(TWO, (0, 1), run), wanted)
        before = [(hand, list(choices)) for hand, choices in run]
        self.assertEqual(run, before)


class Directed(Made):
    """What one slip in the made program would turn."""

    def orders_that_fault(self, program, most=3):
        found = {order: self.makes(program, order) for order in all_orders(len(program[1]), most)}
        for order, faulty in found.items():
            self.assertIs(faulty, faults_by_stands(program, order), order)
        return [order for order, faulty in found.items() if faulty]

    def setter(self, *rows):
        return [list(rows) or [("set", "x", ("to", 1))]]

    def test_turns_end_behind_every_row(self):
        # The first hand has to be where each row leads as x is 0, and to go on as it is 1.
        behind = [("wait", "x", 1), FAULT]
        for rows in ([("if", "x", 0, 2), BACK], [("if", "x", 1, 4)], [("wait", "x", 0)], [("set", "y", ("of", "x")), ("if", "y", 1, 5)],
                     [("wait", "x", 0), ("set", "y", ("any",)), ("wait", "y", 1)], [("wait", "x", 0), ("go", (0, 2))],
                     [("if", "x", 0, 2), ("go", (1,)), ("if", "x", 0, 4), ("go", (3,))]):
            program = of_hands([rows + behind + [BACK]], self.setter(), boxes=(("x", 2), ("y", 2)))
            self.assertEqual(self.orders_that_fault(program), [(0, 1, 0)], rows)

    def test_turns_end_within_calls(self):
        calls = [[("call", "b"), ("wait", "x", 0), BACK, FAULT], [("wait", "x", 0), ("call", "c"), ("wait", "x", 1), FAULT], [("if", "x", 0, 2), ("go", (1,))]]
        self.assertEqual(self.orders_that_fault(of_hands(calls, self.setter(), boxes=(("x", 2),))), [(0, 1, 0)])
        back = [[("call", "b"), ("wait", "x", 1), FAULT], [("if", "x", 0, 2), ("go", (1,))]]
        self.assertEqual(self.orders_that_fault(of_hands(back, self.setter(), boxes=(("x", 2),))), [(0, 1, 0)])

    def test_turns_end_behind_a_begin(self):
        begins = [[("begin", "handb"), ("wait", "x", 1), FAULT]]
        self.assertEqual(self.orders_that_fault(of_hands(begins, self.setter(), boxes=(("x", 2),))), [(0, 1, 0)])
        # The hand that is begun goes on at 0 and at its first row, whatever the others are at.
        begun = [[("wait", "x", 1), FAULT]]
        program = of_hands([[("set", "x", ("to", 1)), ("begin", "handb"), ("set", "x", ("to", 0))]], begun, self.setter(), boxes=(("x", 2),))
        self.assertEqual(self.orders_that_fault(program, 2), [(0, 1)])

    def test_own_boxes_are_nought_for_each_hand(self):
        def pair(*rows):
            one = ("one", (("a", 2), ("b", 2)), (("top", (("set", "a", ("to", 1)), ("set", "b", ("to", 1)), ("set", "x", ("to", 1)))),))
            return (("x", 2),), (one, ("two", (("a", 2), ("b", 2)), (("top", (("wait", "x", 1),) + rows),)))
        for box in "ab":
            self.assertEqual(self.orders_that_fault(pair(("if", box, 1, 3), BACK, FAULT)), [])
            self.assertEqual(self.orders_that_fault(pair(("wait", box, 0), FAULT), 2), [(0, 1)])

    def test_common_boxes_that_one_hand_alone_names(self):
        boxes = (("x", 2), ("y", 2), ("z", 2))
        one = [[("set", "y", ("to", 1)), ("set", "x", ("to", 1))]]
        self.assertEqual(self.orders_that_fault(of_hands(one, [[("wait", "x", 1), ("wait", "z", 1), FAULT]], boxes=boxes)), [])
        self.assertEqual(self.orders_that_fault(of_hands(one, [[("wait", "x", 1), ("wait", "z", 0), FAULT]], boxes=boxes), 2), [(0, 1)])
        # It stays as it is from one turn of its hand to the next.
        keeps = [[("set", "y", ("to", 1)), ("set", "x", ("to", 1)), ("wait", "x", 0), ("wait", "y", 1), FAULT]]
        self.assertEqual(self.orders_that_fault(of_hands(keeps, [[("wait", "x", 1), ("set", "x", ("to", 0))]], boxes=boxes)), [(0, 1, 0)])

    def leads_all(self, program, order):
        """Lead all faults of the made program back, as many as there are stands at which it faults."""
        made = one_hand(program, order)
        runs = faulty_runs(random.Random(88), made, 10 ** 6, 20000)
        self.assertEqual(bool(runs), least_turns(made, 1) is not None)
        hands = set()
        for run in runs:
            hands.add(tuple(hand for hand, choices in self.leads(program, order, run)))
        return hands

    def test_several_faults_of_one_order(self):
        race = of_hands([[("set", "x", ("to", 1)), FAULT]], [[("wait", "x", 0), ("set", "y", ("to", 1)), FAULT]], boxes=(("x", 2), ("y", 2)))
        self.assertEqual(self.leads_all(race, (0, 1)), {(0,), (1,)})
        self.assertEqual(self.leads_all(race, (1, 0)), {(0,), (1,), (1, 0)})
        self.leads_all(race, (0, 1, 0, 1))
        # Behind the first hand's fault the second's next turn counts for nothing.
        late = of_hands([[("set", "x", ("to", 1)), ("wait", "x", 2), ("set", "x", ("to", 1)), FAULT]],
                        [[("wait", "x", 1), ("set", "x", ("to", 2)), ("wait", "x", 0), FAULT]], boxes=(("x", 3),))
        self.assertEqual(self.leads_all(late, (0, 1, 0, 1)), {(0, 1, 0)})
        three = of_hands([[("set", "x", ("to", 1)), FAULT]], [[("wait", "x", 0), ("set", "y", ("to", 1)), FAULT]],
                         [[("set", "y", ("any",)), ("wait", "y", 1), ("wait", "x", 1), FAULT]], boxes=(("x", 2), ("y", 2)))
        for order in ((0, 1, 2), (2, 1, 0), (1, 2, 0), (2, 0, 1, 2)):
            self.leads_all(three, order)


class ByChance(Made):
    def test_against_all_stands(self):
        chance = random.Random(81)
        found = {}
        for count in range(300):
            program = order_program(chance, deep=False)
            for many in range(3):
                order = tuple(chance.randrange(len(program[1])) for turn in range(chance.randint(1, 6)))
                wanted = faults_by_stands(program, order)
                if wanted != "much":
                    self.assertIs(self.makes(program, order), wanted, (program, order))
                    found[wanted] = found.get(wanted, 0) + 1
        self.assertGreater(min(found.values()), 100)

    def test_with_calls_of_any_depth(self):
        chance = random.Random(82)
        found = {}
        for count in range(250):
            program = order_program(chance, greatest=3)
            for many in range(2):
                order = tuple(chance.randrange(len(program[1])) for turn in range(chance.randint(1, 4)))
                wanted = faults_by_order(program, order)
                if faults_by_stands(program, order) is True:
                    self.assertIs(wanted, True)
                self.assertIs(self.makes(program, order), wanted, (program, order))
                found[wanted] = found.get(wanted, 0) + 1
        self.assertGreater(min(found.values()), 60)

    def test_faults_that_need_several_turns(self):
        chance = random.Random(87)
        found = {}
        for count in range(150):
            hands = chance.choice([2, 2, 3])
            program = relay_program(chance, chance.randint(2, 5), hands, begins=chance.random() < 0.3)
            known = least_turns(program, 5)
            # By the order of the run itself, and by one somewhat otherwise.
            order = [hand for hand, choices in known[1]] if known else [chance.randrange(hands) for turn in range(4)]
            for other in (order, order + [chance.randrange(hands)], order[1:], order[:-1], order[::-1], [*order[:1], chance.randrange(hands), *order[1:]]):
                if 1 <= len(other) <= 6:
                    wanted = faults_by_order(program, other)
                    self.assertIs(self.makes(program, tuple(other)), wanted, (program, other))
                    found[wanted] = found.get(wanted, 0) + 1
        self.assertGreater(min(found.values()), 150)

    def test_many_faults_of_one_program_are_led_back(self):
        chance = random.Random(83)
        led = 0
        for count in range(400):
            program = order_program(chance, greatest=2, rows=4) if count % 2 else relay_program(chance, 3)
            order = tuple(chance.randrange(len(program[1])) for turn in range(chance.randint(1, 5)))
            made = one_hand(program, order)
            if least_turns(made, 1) is not None:
                for run in faulty_runs(chance, made, 12):
                    self.leads(program, order, run)
                    led += 1
        self.assertGreater(led, 60)

    def test_the_least_turns_by_all_orders(self):
        chance = random.Random(84)
        for count in range(40):
            program = order_program(chance, greatest=2, hands=2)
            for most in (1, 2, 3):
                faulty = any(self.makes(program, order) for order in all_orders(len(program[1]), most) if len(order) == most)
                self.assertIs(faulty, least_turns(program, most) is not None)


def faulty_runs(chance, program, most, stands_most=1500):
    """Some runs of a program of one hand that fault, found by going on by chance among all stands."""
    stands = {first_of(program): []}
    front = list(stands)
    found = []
    while front and len(stands) < stands_most and len(found) < most:
        stand = front.pop(chance.randrange(len(front)))
        if faulty_of(program, stand) is not None:
            # The steps are put into some turns of the one hand.
            path = stands[stand]
            cut = chance.randint(0, len(path))
            found.append([(0, part) for part in (path[:cut], path[cut:]) if part])
        for choice, onward in steps_of(program, stand, 0):
            if onward not in stands and len(onward[1][0][1]) < 12:
                stands[onward] = stands[stand] + [choice]
                front.append(onward)
    return found


class Bounds(unittest.TestCase):
    def some_hand(self, chance, name, boxes, others):
        """A hand within the bounds, of eight rows a text, of every kind."""
        sizes = dict(boxes + (("p", 2),))
        texts = []
        for title in ("top", "sub"):
            rows = [("set", "p", ("any",))]
            while len(rows) < 8:
                box = chance.choice(sorted(sizes))
                value = chance.randrange(2)
                other = [one for one in sizes if one != box]
                rows.append(chance.choice([
                    ("set", box, chance.choice([("to", value), ("on", chance.randint(1, 3)), ("any",)] + [("of", one) for one in other])),
                    ("if", box, value, chance.randint(0, 8)), ("wait", box, value), ("call", chance.choice(["top", "sub"])),
                    ("go", tuple(sorted(chance.sample(range(9), chance.randint(1, 4))))), FAULT, BACK,
                ] + [("begin", one) for one in others]))
            texts.append((title, tuple(rows)))
        return name, (("p", 2),), tuple(texts)

    def test_never_refused(self):
        chance = random.Random(85)
        boxes = (("x", 2), ("y", 2))
        for count in range(60):
            program = boxes, (self.some_hand(chance, "one", boxes, ()), self.some_hand(chance, "two", boxes, ()))
            for order in all_orders(2, 4):
                self.assertIsNone(look_at_program(one_hand(program, order)))
            single = boxes, program[1][:1]
            for order in all_orders(1, 4):
                self.assertIsNone(look_at_program(one_hand(single, order)))

    def test_never_refused_where_rows_begin_hands(self):
        chance = random.Random(86)
        boxes = (("x", 2),)
        for count in range(60):
            program = boxes, (self.some_hand(chance, "one", boxes, ("two",)), self.some_hand(chance, "two", boxes, ("one",)))
            other = boxes, (self.some_hand(chance, "one", boxes, ("two",) * 3), self.some_hand(chance, "two", boxes, ()))
            for order in all_orders(2, 3):
                self.assertIsNone(look_at_program(one_hand(program, order)))
                self.assertIsNone(look_at_program(one_hand(other, order)))

    def test_every_row_in_one_program(self):
        rows = (("set", "x", ("of", "y")), ("set", "y", ("of", "p")), ("set", "p", ("of", "x")), ("if", "x", 1, 0), ("if", "y", 1, 8),
                ("if", "x", 0, 4), ("call", "sub"), FAULT)
        more = (("if", "y", 0, 1), ("if", "y", 1, 2), ("if", "x", 0, 3), ("if", "x", 1, 4), ("if", "p", 1, 5), ("wait", "x", 1), ("call", "top"), FAULT)
        hand = ((("p", 2),), (("top", rows), ("sub", more)))
        program = (("x", 2), ("y", 2)), (("one",) + hand, ("two",) + hand)
        for order in all_orders(2, 4):
            self.assertIsNone(look_at_program(one_hand(program, order)))

    def refuses_many(self, program, order, most):
        """It is refused with a number greater than there may be, or it is a program; led_back likewise."""
        with self.assertRaises(TooMany) as caught:
            one_hand(program, order)
        self.assertIsInstance(caught.exception.many, int)
        self.assertGreater(caught.exception.many, most)
        with self.assertRaises(TooMany) as again:
            led_back(program, order, None)
        self.assertEqual(again.exception.many, caught.exception.many)
        return caught.exception.many

    def test_too_many_boxes(self):
        names = "abcdefgh"
        boxes = tuple((name, 4) for name in names)
        rows = [("set", name, ("on", 1)) for name in names] + [FAULT]
        program = of_hands([rows], [rows], boxes=boxes)
        fewer = self.refuses_many(program, (0, 1, 0, 1), 24)
        more = self.refuses_many(program, (0, 1, 0, 1, 0, 1), 24)
        self.assertGreater(more, fewer)
        self.assertIsNone(look_at_program(one_hand(program, (0,))))
        own = tuple((first + name, 8) for first in "xyz" for name in names)
        mine = tuple(("set", name, ("any",)) for name, size in own)
        hands = tuple((name, own, (("top", mine + tuple(rows)),)) for name in ("one", "two"))
        self.refuses_many((boxes, hands), (0, 1), 24)

    def test_too_many_texts(self):
        titles = [first + second for first in "abcd" for second in "abcdefgh"]
        self.assertEqual(len(titles), 32)
        texts = tuple((title, (("set", "x", ("on", 1)), ("call", titles[-1]), FAULT)) for title in titles)
        program = (("x", 2),), (("one", (), texts), ("two", (), texts))
        self.assertGreaterEqual(self.refuses_many(program, (0, 1), 32), 64)
        # Boxes are looked at first, and are not too many here; then texts, then rows.
        long = tuple((title, (("set", "x", ("on", 1)),) * 2000) for title in titles)
        self.assertGreaterEqual(self.refuses_many(((("x", 2),), (("one", (), long + ()), ("two", (), texts))), (0, 1, 0), 32), 64)
        self.assertLess(self.refuses_many(((("x", 2),), (("one", (), long + ()), ("two", (), texts))), (0, 1, 0), 32), 2000)

    def test_too_many_rows(self):
        rows = (("set", "x", ("on", 1)),) * 1999 + (FAULT,)
        program = (("x", 2),), (("one", (), (("top", rows),)), ("two", (), (("top", rows),)))
        self.assertGreater(self.refuses_many(program, (0, 1), 2000), 2000)
        self.assertGreater(self.refuses_many(program, (1, 0, 1), 2000), 2000)


class Refusals(unittest.TestCase):
    def test_no_program_goes_first(self):
        for thing in anything():
            for ask in (lambda: one_hand(thing, (0,)), lambda: one_hand(thing, thing), lambda: led_back(thing, (0,), []),
                        lambda: led_back(thing, thing, thing)):
                with self.assertRaises(NoProgram):
                    ask()
        with self.assertRaises(NoProgram) as caught:
            one_hand(with_one_hand([BACK, None]), None)
        self.assertEqual((caught.exception.hand, caught.exception.text, caught.exception.row), (0, 0, 1))

    def test_no_orders(self):
        wrong = never() + [0, 1, "a", "01", (), (0,) * 7, (True,), (0, True), (False,), (2,), (0, 2), (-1,), (0, -1), [0], [0, 1], ((0,),),
                            (0, None), ("0",), (0.0,), (10 ** 29,), {0: 1}, (0, 1, 0, 1, 0, 1, 0)]
        wrong += [(0, thing) for thing in never()]
        for thing in wrong:
            for program in (TWO, AT_FIRST):
                with self.assertRaises(NoOrder):
                    one_hand(program, thing)
                with self.assertRaises(NoOrder):
                    led_back(program, thing, None)
        for order in ((0,), (1,), (0,) * 6, (0, 1, 0, 1, 0, 1)):
            self.assertIsNone(look_at_program(one_hand(TWO, order)))
        with self.assertRaises(NoOrder):
            one_hand(of_hands([[BACK]]), (1,))

    def refuses_run(self, program, order, run, number, at):
        with self.assertRaises(NoRun) as caught:
            led_back(program, order, run)
        self.assertEqual((caught.exception.number, caught.exception.at), (number, at))

    def test_runs_that_do_not_fault(self):
        for program in (TWO, SAFE, NOBODY, THREE):
            self.refuses_run(program, (0, 1), [], None, None)
        made = one_hand(TWO, (0, 1))
        run = least_turns(made, 1)[1]
        choices = run[0][1]
        for many in range(len(choices)):
            self.refuses_run(TWO, (0, 1), [(0, choices[:many])] if many else [], None, None)

    def test_lists_that_are_none(self):
        run = least_turns(one_hand(TWO, (0, 1)), 1)[1]
        choices = run[0][1]
        for thing in never():
            self.refuses_run(TWO, (0, 1), [(thing, choices)], 0, None)
            self.refuses_run(TWO, (0, 1), run + [thing], 1, None)
            if not isinstance(thing, list) or not thing:
                self.refuses_run(TWO, (0, 1), [(0, thing)], 0, None)
        for wrong in ([(1, choices)], [(0, [])], [(0, tuple(choices))], [[0, choices]], [(0,)], [(0, choices, 1)]):
            self.refuses_run(TWO, (0, 1), wrong, 0, None)
        for at in range(len(choices)):
            for thing in ("a", 77, -1, True):
                self.refuses_run(TWO, (0, 1), [(0, choices[:at] + [thing] + choices[at + 1:])], 0, at)
                parts = [(0, part) for part in (choices[:at], [thing]) if part]
                self.refuses_run(TWO, (0, 1), parts, len(parts) - 1, 0)
        # Behind a fault there are no steps.
        self.refuses_run(TWO, (0, 1), run + [(0, [None])], 1, 0)

    def test_runs_of_every_kind(self):
        for thing in anything():
            if not isinstance(thing, list):
                self.refuses_run(TWO, (0, 1), thing, None, None)
            elif thing:
                self.refuses_run(TWO, (0, 1), thing, 0, None)
        # A run of the first program is none of the made one.
        with self.assertRaises(NoRun):
            led_back(TWO, (0, 1), least_turns(TWO, 2)[1])
        with self.assertRaises(NoRun):
            led_back(AT_FIRST, (0,), [(0, [None])])


if __name__ == "__main__":
    unittest.main()
