"""What is told of a program."""

import unittest

from fewturnsover.errors import NoHand, NoPoint, NoProgram
from fewturnsover.programs import first_hands, hands_of, like_hands, row_at
from tests.samples import BACK, FAULT, RICH, anything, never, of_hands, one_hand


class Asked(unittest.TestCase):
    def test_what_is_no_program_is_refused(self):
        broken = (RICH[0], RICH[1][:2] + (("third", (), (("top", (BACK, ("wait", "z", 0))),)),))
        for ask in (hands_of, first_hands, like_hands):
            for thing in anything():
                with self.assertRaises(NoProgram) as caught:
                    ask(thing)
                refused = caught.exception
                self.assertEqual((refused.hand, refused.text, refused.row), (None, None, None))
            with self.assertRaises(NoProgram) as caught:
                ask(program=broken)
            self.assertEqual((caught.exception.hand, caught.exception.text, caught.exception.row), (2, 0, 1))

    def test_told_lists_are_new_ones(self):
        for ask in (hands_of, first_hands, like_hands):
            first = ask(RICH)
            second = ask(RICH)
            self.assertEqual(first, second)
            self.assertIsNot(first, second)
            first.append(None)
            self.assertEqual(ask(RICH), second)

    def test_told_lots_are_new_ones(self):
        program = of_hands([[BACK]], [[BACK]])
        lots = like_hands(program)
        lots[0].append(9)
        self.assertEqual(like_hands(program), [[0, 1]])


class Hands(unittest.TestCase):
    def test_names_in_order(self):
        self.assertEqual(hands_of(RICH), ["main", "aide", "third"])
        self.assertEqual(hands_of(program=one_hand([BACK])), ["main"])
        self.assertEqual(hands_of(((), tuple((name, (), (("t", (BACK,)),)) for name in "dbca"))), ["d", "b", "c", "a"])


class FirstHands(unittest.TestCase):
    def test_those_that_no_row_begins(self):
        self.assertEqual(first_hands(RICH), [0, 2])
        self.assertEqual(first_hands(program=one_hand([BACK])), [0])
        self.assertEqual(first_hands(of_hands([[BACK]], [[BACK]], [[BACK]], [[BACK]])), [0, 1, 2, 3])

    def test_begun_by_a_later_hand_and_a_later_text(self):
        self.assertEqual(first_hands(of_hands([[BACK]], [[BACK], [BACK, ("begin", "handa")]])), [1])

    def test_begun_twice_and_by_two(self):
        rows = [("begin", "handb"), ("begin", "handb")]
        self.assertEqual(first_hands(of_hands([rows], [[BACK]], [rows])), [0, 2])

    def test_begun_by_one_that_is_begun(self):
        self.assertEqual(first_hands(of_hands([[("begin", "handb")]], [[("begin", "handc")]], [[BACK]])), [0])

    def test_begun_by_a_row_that_is_never_come_to(self):
        self.assertEqual(first_hands(of_hands([[BACK, ("begin", "handb")]], [[BACK]])), [0])

    def test_none_at_all(self):
        self.assertEqual(first_hands(of_hands([[("begin", "handb")]], [[("begin", "handa")]])), [])


class LikeHands(unittest.TestCase):
    def like(self, *hands, boxes=()):
        named = tuple(("hand" + "abcd"[at],) + hand for at, hand in enumerate(hands))
        return like_hands((boxes, named))

    def test_one_hand(self):
        self.assertEqual(like_hands(one_hand([BACK])), [[0]])

    def test_all_alike(self):
        hand = ((("v", 2),), (("top", (("set", "v", ("to", 1)), FAULT)),))
        self.assertEqual(self.like(hand, hand, hand, hand), [[0, 1, 2, 3]])

    def test_lots_by_their_least_ones(self):
        one, two = ((), (("top", (BACK,)),)), ((), (("top", (FAULT,)),))
        self.assertEqual(self.like(one, two, one, two), [[0, 2], [1, 3]])
        self.assertEqual(self.like(one, two, two, one), [[0, 3], [1, 2]])
        self.assertEqual(self.like(two, one, one, one), [[0], [1, 2, 3]])
        self.assertEqual(like_hands(program=RICH), [[0], [1], [2]])

    def test_like_but_for_one_thing(self):
        own, texts = (("v", 2), ("w", 2)), (("top", (BACK, FAULT)), ("sub", (BACK,)))
        others = [
            ((("u", 2), ("w", 2)), texts),
            ((("v", 3), ("w", 2)), texts),
            ((("w", 2), ("v", 2)), texts),
            ((("v", 2),), texts),
            (own, texts[:1]),
            (own, texts[::-1]),
            (own, (("cap", (BACK, FAULT)), ("sub", (BACK,)))),
            (own, (("top", (BACK, BACK)), ("sub", (BACK,)))),
            (own, (("top", (BACK, FAULT)), ("sub", (BACK, BACK)))),
        ]
        for other in others:
            self.assertEqual(self.like((own, texts), other), [[0], [1]])
            self.assertEqual(self.like((own, texts), other, (own, texts)), [[0, 2], [1]])

    def test_one_that_begins_a_hand_is_by_itself(self):
        begins = ((), (("top", (BACK, ("begin", "handc"))),))
        plain = ((), (("top", (BACK,)),))
        self.assertEqual(self.like(begins, begins, plain), [[0], [1], [2]])
        self.assertEqual(self.like(begins, plain, plain, plain), [[0], [1, 3], [2]])

    def test_one_that_is_begun_is_by_itself(self):
        plain = ((), (("top", (BACK,)),))
        begins = ((), (("top", (("begin", "handa"),)),))
        self.assertEqual(self.like(plain, plain, plain, begins), [[0], [1, 2], [3]])
        both = ((), (("top", (("begin", "handa"), ("begin", "handb"))),))
        self.assertEqual(self.like(plain, plain, both), [[0], [1], [2]])


class RowAt(unittest.TestCase):
    def test_each_row_and_the_end(self):
        for hand, (name, own, texts) in enumerate(RICH[1]):
            for text, (title, rows) in enumerate(texts):
                for row in range(len(rows)):
                    self.assertEqual(row_at(RICH, hand, (text, row)), rows[row])
                self.assertEqual(row_at(RICH, hand, (text, len(rows))), BACK)

    def test_by_names(self):
        self.assertEqual(row_at(program=RICH, hand=2, point=(0, 1)), FAULT)

    def refuses_hand(self, thing, point=(0, 0)):
        with self.assertRaises(NoHand) as caught:
            row_at(RICH, thing, point)
        self.assertIs(caught.exception.hand, thing)

    def refuses_point(self, hand, thing):
        with self.assertRaises(NoPoint) as caught:
            row_at(RICH, hand, thing)
        self.assertIs(caught.exception.point, thing)

    def test_hands_that_are_none(self):
        for thing in never() + [3, 4, 10 ** 29, -3, "a", "main", (), (0,), (0, 0)]:
            self.refuses_hand(thing)

    def test_points_beyond(self):
        for thing in ((0, 10), (0, 11), (1, 4), (2, 0), (2, 3), (0, -1), (-1, 0), (10 ** 29, 0), (0, 10 ** 29)):
            self.refuses_point(0, thing)
        self.refuses_point(1, (1, 0))
        self.refuses_point(2, (0, 3))

    def test_points_that_are_none(self):
        for thing in never() + [0, 1, "a", (), (0,), (0, 0, 0), (0, True), (False, 0), (0, None), (None, 0), [0, 0], ("a", 0)]:
            self.refuses_point(0, thing)
        for part in never():
            self.refuses_point(0, (part, 0))
            self.refuses_point(0, (0, part))

    def test_the_order_of_refusals(self):
        with self.assertRaises(NoProgram):
            row_at(None, None, None)
        with self.assertRaises(NoProgram):
            row_at(None, 0, (0, 0))
        self.refuses_hand(None, None)
        self.refuses_hand(3, (9, 9))


if __name__ == "__main__":
    unittest.main()
