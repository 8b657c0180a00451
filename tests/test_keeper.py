"""Keepers: programs and turns changed deed by deed, with tables used again."""

import random
import unittest

import fewturnsover.keeper
from fewturnsover.errors import Bare, NoHand, NoLimit, NoPoint, NoProgram, TooMany
from fewturnsover.keeper import Keeper
from fewturnsover.tables import joined, table_of
from fewturnsover.told import least_turns
from fewturnsover.walker import Walker
from tests.ordering import order_program, some_order_row
from tests.samples import BACK, FAULT, RICH, TWO, Agreeable, anything, never, of_hands, replaced
from tests.test_endless import AT_FIRST
from tests.test_tables import NOTHING, tables_of
from tests.test_told import BEGIN_FAULT

# Two turns lead to the fault; boxes of two values, so that tables of four turns can be made.
PAIR = of_hands([[("wait", "x", 0), ("set", "x", ("to", 1))]], [[("wait", "x", 1), FAULT]], boxes=(("x", 2),))
# The first hand's tables can be made, the second's of two turns are too many.
WIDE = ((("x", 4), ("y", 4)), (("one", (), (("top", (BACK,)),)), ("two", (), (("top", (("set", "x", ("any",)), ("set", "y", ("any",)))),))))


def state_of(keeper):
    return keeper.program(), keeper.turns(), keeper.kept(), keeper.made(), len(keeper)


class Deeds(unittest.TestCase):
    def test_at_first(self):
        keeper = Keeper(program=PAIR, turns=2)
        self.assertEqual(state_of(keeper), (PAIR, 2, [], 0, 0))
        for turns in range(5):
            self.assertEqual(Keeper(PAIR, turns).turns(), turns)

    def test_asks_make_tables_and_use_them_again(self):
        keeper = Keeper(PAIR, 1)
        self.assertIsNone(keeper.ask())
        self.assertEqual(state_of(keeper), (PAIR, 1, [(0, 1), (1, 1)], 2, 0))
        self.assertIsNone(keeper.ask())
        self.assertEqual(keeper.made(), 2)
        self.assertIsNone(keeper.raise_turns())
        self.assertEqual(state_of(keeper), (PAIR, 2, [(0, 1), (1, 1)], 2, 1))
        self.assertEqual(keeper.ask(), 2)
        self.assertEqual(state_of(keeper), (PAIR, 2, [(0, 1), (0, 2), (1, 1), (1, 2)], 4, 1))

    def test_of_no_turns_no_tables_are_made(self):
        for program, wanted in ((PAIR, None), (AT_FIRST, 0)):
            keeper = Keeper(program, 0)
            self.assertEqual(keeper.ask(), wanted)
            self.assertEqual((keeper.kept(), keeper.made()), ([], 0))
        # With a turn they are, also where a fault stands at first.
        keeper = Keeper(AT_FIRST, 1)
        self.assertEqual(keeper.ask(), 0)
        self.assertEqual((keeper.kept(), keeper.made()), ([(0, 1), (1, 1)], 2))

    def test_a_changed_row_leaves_the_others_tables(self):
        keeper = Keeper(PAIR, 2)
        keeper.ask()
        keeper.raise_turns()
        keeper.ask()
        self.assertIsNone(keeper.change(1, (0, 0), ("wait", "x", 0)))
        self.assertEqual(keeper.kept(), [(0, 2), (0, 3)])
        self.assertEqual(keeper.program(), replaced(PAIR, (1, 1, 2, 0, 1, 0), ("wait", "x", 0)))
        self.assertEqual((keeper.made(), len(keeper), keeper.turns()), (4, 2, 3))
        self.assertEqual(keeper.ask(), 1)
        self.assertEqual((keeper.kept(), keeper.made()), ([(0, 2), (0, 3), (1, 3)], 5))

    def test_a_row_changed_to_the_same(self):
        keeper = Keeper(PAIR, 2)
        keeper.ask()
        keeper.change(hand=0, point=(0, 1), row=("set", "x", ("to", 1)))
        self.assertEqual(state_of(keeper), (PAIR, 2, [(1, 2)], 2, 1))
        self.assertEqual(keeper.ask(), 2)
        self.assertEqual(keeper.made(), 3)

    def test_back(self):
        keeper = Keeper(PAIR, 1)
        keeper.raise_turns()
        keeper.ask()
        keeper.change(0, (0, 0), BACK)
        keeper.ask()
        keeper.raise_turns()
        self.assertEqual(state_of(keeper)[1:], (3, [(0, 2), (1, 2)], 3, 3))
        self.assertIsNone(keeper.back())
        self.assertEqual(state_of(keeper)[1:], (2, [(0, 2), (1, 2)], 3, 2))
        keeper.back()
        # The tables are those ahead of the change; how many were made stays.
        self.assertEqual(state_of(keeper), (PAIR, 2, [(0, 2), (1, 2)], 3, 1))
        self.assertEqual((keeper.ask(), keeper.made()), (2, 3))
        keeper.back()
        # Made behind that deed, they are gone with it.
        self.assertEqual(state_of(keeper), (PAIR, 1, [], 3, 0))
        self.assertEqual((keeper.ask(), keeper.kept(), keeper.made()), (None, [(0, 1), (1, 1)], 5))
        for count in range(2):
            with self.assertRaises(Bare):
                keeper.back()
        self.assertEqual(state_of(keeper), (PAIR, 1, [(0, 1), (1, 1)], 5, 0))

    def test_a_change_back_and_forth(self):
        keeper = Keeper(PAIR, 2)
        keeper.change(1, (0, 1), BACK)
        self.assertIsNone(keeper.ask())
        keeper.change(1, (0, 1), FAULT)
        self.assertEqual(keeper.program(), PAIR)
        self.assertEqual(keeper.ask(), 2)
        self.assertEqual(len(keeper), 2)

    def test_a_change_that_begins_a_hand(self):
        keeper = Keeper(PAIR, 3)
        keeper.ask()
        keeper.change(0, (0, 0), ("begin", "handb"))
        self.assertEqual(keeper.kept(), [(1, 3)])
        self.assertEqual(keeper.ask(), least_turns(keeper.program(), 3)[0])
        keeper = Keeper(BEGIN_FAULT, 2)
        self.assertEqual(keeper.ask(), 2)
        keeper.change(0, (0, 1), BACK)
        # Nobody begins it now, so that it is there from the first.
        self.assertEqual(keeper.ask(), 0)

    def test_new_lists(self):
        keeper = Keeper(PAIR, 2)
        keeper.ask()
        keeper.kept().clear()
        self.assertEqual(keeper.kept(), [(0, 2), (1, 2)])

    def test_methods_stand_in_the_class_itself(self):
        for name in "raise_turns change back ask kept made turns program twin __eq__ __len__".split():
            self.assertIn(name, vars(Keeper))


class Twins(unittest.TestCase):
    def test_twins_go_on_by_themselves(self):
        keeper = Keeper(PAIR, 2)
        keeper.ask()
        keeper.raise_turns()
        twin = keeper.twin()
        self.assertIsInstance(twin, Keeper)
        self.assertEqual(state_of(twin), state_of(keeper))
        self.assertTrue(twin == keeper)
        before = state_of(keeper)
        twin.change(0, (0, 0), FAULT)
        self.assertEqual(twin.ask(), 0)
        self.assertEqual(state_of(keeper), before)
        self.assertFalse(twin == keeper)
        behind = state_of(twin)
        keeper.back()
        self.assertEqual(keeper.ask(), 2)
        self.assertEqual(state_of(twin), behind)
        twin.back()
        twin.back()
        self.assertEqual(state_of(twin)[:3], (PAIR, 2, [(0, 2), (1, 2)]))
        self.assertTrue(twin == keeper)
        with self.assertRaises(Bare):
            twin.back()

    def test_likeness(self):
        one, other = Keeper(PAIR, 2), Keeper(PAIR, 2)
        self.assertTrue(one == other)
        other.ask()
        self.assertTrue(one == other)
        other.raise_turns()
        self.assertFalse(one == other)
        self.assertTrue(one != other)
        one.raise_turns()
        self.assertTrue(one == other)
        one.change(0, (0, 0), BACK)
        one.change(0, (0, 0), ("wait", "x", 0))
        self.assertTrue(one == other)
        self.assertFalse(one == Keeper(TWO, 3))
        self.assertTrue(Keeper(PAIR, 1) == Keeper((PAIR[0], PAIR[1] + ()), 1))

    def test_like_nothing_else(self):
        keeper = Keeper(PAIR, 2)
        for thing in anything() + [PAIR, (PAIR, 2), Walker(PAIR)]:
            if not isinstance(thing, Agreeable):
                self.assertIs(keeper == thing, False)


class Refusals(unittest.TestCase):
    def test_making(self):
        for thing in anything():
            for turns in (1, 5, None, thing):
                with self.assertRaises(NoProgram):
                    Keeper(thing, turns)
        for thing in never() + [5, 6, -2, 10 ** 29, "1", (), (1,), 1.5]:
            with self.assertRaises(NoLimit):
                Keeper(PAIR, thing)

    def stays(self, error, ask, keeper):
        before = state_of(keeper)
        with self.assertRaises(error) as caught:
            ask()
        self.assertEqual(state_of(keeper), before)
        return caught.exception

    def test_no_more_turns(self):
        keeper = Keeper(NOTHING, 3)
        keeper.raise_turns()
        for count in range(2):
            self.assertEqual(self.stays(TooMany, keeper.raise_turns, keeper).many, 5)
        self.assertEqual((keeper.turns(), len(keeper)), (4, 1))

    def test_no_hand(self):
        keeper = Keeper(RICH, 1)
        for thing in never() + [3, 4, 10 ** 29, "main", (), (0,)]:
            for point, row in (((0, 0), BACK), (None, None)):
                self.assertIs(self.stays(NoHand, lambda: keeper.change(thing, point, row), keeper).hand, thing)

    def test_no_point(self):
        keeper = Keeper(RICH, 1)
        for thing in never() + [0, (), (0,), (0, 0, 0), [0, 0], (0, True), (False, 0), (0, 9), (1, 3), (0, 10), (2, 0), (0, -1), (-1, 0), ("a", 0)]:
            for row in (BACK, None):
                self.assertIs(self.stays(NoPoint, lambda: keeper.change(0, thing, row), keeper).point, thing)
        self.assertIsNone(keeper.change(0, (0, 8), BACK))

    def test_no_program_then(self):
        keeper = Keeper(RICH, 1)
        keeper.raise_turns()
        for thing in never() + [0, "back", (), ("a",), ("set", "x"), ("set", "q", ("to", 0)), ("call", "none"), ("begin", "none"), ("go", (11,)),
                                ("back", 0), ["back"], ("wait", "x", 2), ("wait", "x", True)]:
            refused = self.stays(NoProgram, lambda: keeper.change(0, (1, 1), thing), keeper)
            self.assertEqual((refused.hand, refused.text, refused.row), (0, 1, 1))
            refused = self.stays(NoProgram, lambda: keeper.change(1, (0, 2), thing), keeper)
            self.assertEqual((refused.hand, refused.text, refused.row), (1, 0, 2))
        for hand, name in enumerate(("main", "aide", "third")):
            self.stays(NoProgram, lambda: keeper.change(hand, (0, 0), ("begin", name)), keeper)

    def test_an_ask_that_is_refused(self):
        keeper = Keeper(WIDE, 1)
        self.assertIsNone(keeper.ask())
        keeper.raise_turns()
        with self.assertRaises(TooMany):
            table_of(WIDE, 1, 2)
        for count in range(2):
            refused = self.stays(TooMany, keeper.ask, keeper)
            self.assertEqual(refused.many, 2000)
        self.assertEqual((keeper.kept(), keeper.made()), ([(0, 1), (1, 1)], 2))
        # The first hand's table was made, and dropped; behind a change all is made again.
        first = ("if", "x", 0, 2)
        keeper.change(1, (0, 0), first)
        self.stays(TooMany, keeper.ask, keeper)
        keeper.back()
        keeper.back()
        self.assertIsNone(keeper.ask())
        self.assertEqual((keeper.kept(), keeper.made()), ([(0, 1), (1, 1)], 2))


class ByChance(unittest.TestCase):
    def holds(self, keeper, known, kept, made):
        program, turns = known[-1]
        self.assertEqual((keeper.program(), keeper.turns(), len(keeper)), (program, turns, len(known) - 1))
        self.assertEqual((keeper.kept(), keeper.made()), (sorted(kept[-1]), made))
        anew = Keeper(program, turns)
        self.assertTrue(keeper == anew)
        return anew

    def some_change(self, chance, program):
        hand = chance.randrange(len(program[1]))
        name, own, texts = program[1][hand]
        text = chance.randrange(len(texts))
        many = len(texts[text][1])
        others = [other[0] for other in program[1] if other[0] != name]
        row = some_order_row(chance, dict(program[0] + own), [title for title, rows in texts], others, many)
        return hand, (text, chance.randrange(many)), row

    def test_rows_of_deeds(self):
        chance = random.Random(101)
        asked = {}
        for count in range(60):
            program = order_program(chance, greatest=2, boxes=1, rows=4, hands=2)
            keeper = Keeper(program, chance.randint(0, 2))
            known, kept, made = [(program, keeper.turns())], [set()], 0
            for deed in range(25):
                program, turns = known[-1]
                kind = chance.choice(["raise", "change", "change", "back", "ask", "ask"])
                if kind == "raise" and turns < 3:
                    keeper.raise_turns()
                    known.append((program, turns + 1))
                    kept.append(set(kept[-1]))
                elif kind == "change":
                    hand, (text, row), line = self.some_change(chance, program)
                    keeper.change(hand, (text, row), line)
                    known.append((replaced(program, (1, hand, 2, text, 1, row), line), turns))
                    kept.append({pair for pair in kept[-1] if pair[0] != hand})
                elif kind == "back" and len(known) > 1:
                    keeper.back()
                    known.pop()
                    kept.pop()
                elif kind == "ask":
                    anew = Keeper(program, turns)
                    try:
                        wanted = anew.ask()
                    except TooMany:
                        with self.assertRaises(TooMany):
                            keeper.ask()
                        continue
                    self.assertEqual(keeper.ask(), wanted)
                    found = least_turns(program, turns)
                    self.assertEqual(wanted, None if found is None else found[0])
                    asked[wanted] = asked.get(wanted, 0) + 1
                    if turns:
                        new = {(hand, turns) for hand in range(len(program[1]))} - kept[-1]
                        made += len(new)
                        kept[-1] |= new
                self.holds(keeper, known, kept, made)
            while len(known) > 1:
                keeper.back()
                known.pop()
                kept.pop()
                self.holds(keeper, known, kept, made)
            with self.assertRaises(Bare):
                keeper.back()
        self.assertLessEqual({None, 0, 1, 2}, set(asked))

    def test_kept_tables_are_used(self):
        # Tables that are kept are not made again: what makes them is asked just as often as is counted.
        asked = []

        def counted(program, hand, many):
            asked.append((hand, many))
            return table_of(program, hand, many)

        fewturnsover.keeper.table_of = counted
        try:
            keeper = Keeper(PAIR, 2)
            keeper.ask()
            keeper.ask()
            keeper.change(1, (0, 0), BACK)
            keeper.ask()
            keeper.back()
            keeper.ask()
        finally:
            fewturnsover.keeper.table_of = table_of
        self.assertEqual(asked, [(0, 2), (1, 2), (1, 2)])
        self.assertEqual(keeper.made(), 3)

    def test_a_changed_row_leaves_the_very_same_table(self):
        chance = random.Random(102)
        for count in range(40):
            program = order_program(chance, greatest=2, boxes=1, rows=4)
            hand, (text, row), line = self.some_change(chance, program)
            other = replaced(program, (1, hand, 2, text, 1, row), line)
            for known in range(len(program[1])):
                if known != hand:
                    self.assertEqual(table_of(program, known, 1), table_of(other, known, 1))
            self.assertEqual(joined(other, tables_of(other, 1), 1), Keeper(other, 1).ask())


if __name__ == "__main__":
    unittest.main()
