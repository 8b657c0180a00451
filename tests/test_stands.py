"""Stands: that at first, and what a stand is."""

import unittest

from fewturnsover.errors import NoProgram
from fewturnsover.stands import first_stand, is_stand
from tests.reference import first_of, many_walks
from tests.samples import BACK, RICH, anything, doubled, item_at, left_out, never, of_hands, one_hand, paths, replaced

STAND = (
    (1, 2, 0, 1, 1, 1),
    (((1, 7), ((1, 3), (0, 9), (0, 0))), ((3,), ()), ((), ((0, 2),))),
)
HALF = (
    (0, 0, 0, 1, 0, 0),
    (((0, 0), ((0, 0),)), None, None),
)


class FirstStand(unittest.TestCase):
    def test_all_from_the_first(self):
        program = of_hands([[BACK]], [[BACK]], boxes=(("x", 2), ("y", 4)))
        self.assertEqual(first_stand(program), ((0, 0, 1, 1), (((), ((0, 0),)), ((), ((0, 0),)))))
        self.assertEqual(first_stand(program=one_hand([BACK], own=(("a", 2), ("b", 8)))), ((1,), (((0, 0), ((0, 0),)),)))

    def test_some_begun_by_others(self):
        self.assertEqual(first_stand(RICH), ((0, 0, 0, 1, 0, 1), (((0, 0), ((0, 0),)), None, ((), ((0, 0),)))))

    def test_none_from_the_first(self):
        program = of_hands([[("begin", "handb")]], [[("begin", "handa")]])
        self.assertEqual(first_stand(program), ((0, 0), (None, None)))

    def test_programs_by_chance(self):
        for program, path, stands in many_walks(1, 60, 0):
            self.assertEqual(first_stand(program), first_of(program))
            self.assertIs(is_stand(program, first_stand(program)), True)

    def test_what_is_no_program_is_refused(self):
        for thing in anything():
            with self.assertRaises(NoProgram):
                first_stand(thing)


class IsStand(unittest.TestCase):
    def lets(self, thing, program=RICH):
        self.assertIs(is_stand(program, thing), True)

    def denies(self, thing, program=RICH):
        self.assertIs(is_stand(program, thing), False)

    def test_stands(self):
        self.lets(STAND)
        self.lets(HALF)
        self.assertIs(is_stand(program=RICH, thing=STAND), True)

    def test_stands_along_walks(self):
        for program, path, stands in many_walks(2, 80):
            for stand in stands:
                self.lets(stand, program)

    def test_along_walks_with_one_number_otherwise(self):
        for program, path, stands in many_walks(3, 30, 12):
            for stand in stands[-1:]:
                for place in paths(stand):
                    if type(item_at(stand, place)) is int:
                        self.denies(replaced(stand, place, -1), program)
                        self.denies(replaced(stand, place, 2001), program)

    def test_things_of_every_kind(self):
        for thing in anything():
            self.denies(thing)

    def test_one_thing_of_another_kind(self):
        for stand in (STAND, HALF):
            for path in paths(stand):
                for thing in never():
                    if thing is not None or item_at(stand, path) is not None:
                        self.denies(replaced(stand, path, thing))

    def test_truths_for_numbers(self):
        for stand in (STAND, HALF):
            for path in paths(stand):
                if type(item_at(stand, path)) is int and item_at(stand, path) in (0, 1):
                    self.denies(replaced(stand, path, bool(item_at(stand, path))))

    def test_lists_for_tuples(self):
        for path in paths(STAND):
            if isinstance(item_at(STAND, path), tuple):
                self.denies(replaced(STAND, path, list(item_at(STAND, path))))

    def test_one_thing_left_out_or_doubled(self):
        for stand in (STAND, HALF):
            for path in paths(stand)[1:]:
                of_pile = len(path) == 4 and path[2] == 1
                self.assertIs(is_stand(RICH, left_out(stand, path)), of_pile)
                self.assertIs(is_stand(RICH, doubled(stand, path)), of_pile)

    def test_values_at_a_boxs_size(self):
        for at, size in enumerate((2, 3, 1)):
            for value in range(-1, 5):
                self.assertIs(is_stand(RICH, replaced(STAND, (0, at), value)), 0 <= value < size)
        for at, size in enumerate((2, 8)):
            for value in range(-1, 10):
                self.assertIs(is_stand(RICH, replaced(STAND, (1, 0, 0, at), value)), 0 <= value < size)
        for value in range(-1, 6):
            self.assertIs(is_stand(RICH, replaced(STAND, (1, 1, 0, 0), value)), 0 <= value < 4)

    def test_numbers_of_hands(self):
        for hand in range(3):
            for number in (-1, 0, 2, 3):
                self.denies(replaced(STAND, (0, 3 + hand), number))
            self.denies(replaced(STAND, (1, hand), None))
            self.lets(replaced(replaced(STAND, (0, 3 + hand), 0), (1, hand), None))
        for hand in (1, 2):
            self.denies(replaced(HALF, (0, 3 + hand), 1))
        self.denies(replaced(HALF, (1, 1), ((0,), ((0, 0),))))
        self.denies(replaced(HALF, (1, 2), ((), ((0, 0),))))
        self.denies(replaced(HALF, (1, 2), ((), ())))

    def test_points_at_a_texts_end_and_beyond(self):
        for at in (0, 1, 2):
            for point in ((0, 0), (0, 9), (1, 0), (1, 3)):
                self.lets(replaced(STAND, (1, 0, 1, at), point))
            for point in ((0, 10), (1, 4), (2, 0), (-1, 0), (0, -1), (0,), (0, 0, 0), (), 0, None, (True, 0), (0, False)):
                self.denies(replaced(STAND, (1, 0, 1, at), point))
        self.lets(replaced(STAND, (1, 2, 1, 0), (0, 0)))
        self.denies(replaced(STAND, (1, 2, 1, 0), (0, 3)))
        self.denies(replaced(STAND, (1, 2, 1, 0), (1, 0)))

    def test_piles_with_one_point_that_is_none(self):
        points = ((0, 1), (1, 0), (0, 9), (1, 3), (0, 0))
        wrong = [(0, True), (True, 0), (False, 1), (0, False), (1, True), (0, 10), (1, 4), (2, 0), (0, -1), (-1, 0), (0, 10 ** 29), (0,), (0, 1, 0),
                 [0, 1], (0, None), (0, [1]), ("0", 1), (0, 1.0)]
        for many in (1, 2, 7, 8, 9, 50, 100):
            pile = (points * 20)[:many]
            self.assertIs(is_stand(RICH, replaced(STAND, (1, 0, 1), pile)), True)
            for at in {0, many // 2, many - 1}:
                for point in wrong + never():
                    self.assertIs(is_stand(RICH, replaced(STAND, (1, 0, 1), pile[:at] + (point,) + pile[at + 1:])), False)

    def test_piles_to_a_hundred_points(self):
        for many in (0, 1, 2, 99, 100, 101, 102, 300):
            for hand in range(3):
                self.assertIs(is_stand(RICH, replaced(STAND, (1, hand, 1), ((0, 1),) * many)), many <= 100)

    def test_stands_of_other_programs(self):
        self.denies(STAND, one_hand([BACK]))
        self.denies(first_stand(one_hand([BACK])))
        self.denies(HALF, (RICH[0] + (("more", 2),), RICH[1]))

    def test_what_is_no_program_is_refused(self):
        for thing in anything():
            with self.assertRaises(NoProgram):
                is_stand(thing, STAND)
            with self.assertRaises(NoProgram):
                is_stand(thing, None)

    def test_what_is_handed_in_stays(self):
        thing = [[1, 2], ([0, 0], [[0, 0]])]
        self.denies(thing)
        self.assertEqual(thing, [[1, 2], ([0, 0], [[0, 0]])])


if __name__ == "__main__":
    unittest.main()
