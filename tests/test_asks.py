"""Many asks about one program: the answers are those that they were, told with few calls."""

import hashlib
import random
import sys
import unittest

from fewturnsover.errors import NoHand, NoStand
from fewturnsover.programs import look_at_program
from fewturnsover.stands import fault_at, first_stand, is_stand, steps
from tests.reference import faulty_of, first_of, some_walk, steps_of
from tests.samples import doubled, item_at, left_out, paths, replaced

PROGRAM = (
    (("x", 2), ("y", 3)),
    (
        ("a", (("p", 2), ("q", 3)), (
            ("m", (("set", "x", ("on", 1)), ("call", "n"), ("if", "y", 0, 0), ("go", (0, 3)))),
            ("n", (("wait", "x", 1), ("set", "p", ("any",)), ("set", "q", ("of", "p")), ("back",))),
        )),
        ("b", (("p", 2),), (
            ("m", (("set", "y", ("to", 2)), ("call", "n"), ("begin", "c"), ("back",))),
            ("n", (("set", "x", ("any",)), ("if", "x", 1, 3), ("go", (0, 1)), ("fault",))),
        )),
        ("c", (), (
            ("m", (("wait", "y", 2), ("set", "y", ("on", 2)), ("call", "m"), ("go", (0, 4)))),
            ("n", (("back",), ("fault",))),
        )),
    ),
)
HANDS = [0, 1, 2, 3, -1, 10 ** 29, True, False, None, "a", (0,), [0], 0.5]
# Of all that answers_of tells along the walks, as it was told when each ask laid out all of the program.
WAS = "d802876e4a3e81f262454c45d93535555bf98d02bdd427c928e5760934ef6615"


def answer(ask, *things):
    """What is told, or how it is refused."""
    try:
        return ask(*things)
    except (NoStand, NoHand) as refused:
        return type(refused).__name__, getattr(refused, "hand", "")


def none_of(chance, stand):
    """Some things that are like a stand, most of them none."""
    places = paths(stand)[1:]
    found = [(1,), (), None, stand[0], stand[:1], list(stand), stand + (None,)]
    for count in range(6):
        place = chance.choice(places)
        found.append(left_out(stand, place))
        found.append(doubled(stand, place))
        found.append(replaced(stand, place, chance.choice([None, -1, True, False, 0, 1, 4, (), (0, 0), ((0, 4),), [], "a"])))
        if isinstance(item_at(stand, place), tuple):
            found.append(replaced(stand, place, list(item_at(stand, place))))
    return found


def walks():
    """Stands along some walks, each with things that are none."""
    chance = random.Random(6)
    for count in range(12):
        for stand in some_walk(chance, PROGRAM, 60)[1]:
            yield stand, none_of(chance, stand)


def answers_of(stand):
    """All that is told of a stand or what is none."""
    found = [is_stand(PROGRAM, stand), answer(fault_at, PROGRAM, stand)]
    return found + [answer(steps, PROGRAM, stand, hand) for hand in HANDS]


class Answers(unittest.TestCase):
    def test_along_walks(self):
        self.assertEqual(first_stand(PROGRAM), first_of(PROGRAM))
        for stand, others in walks():
            told = answers_of(stand)
            self.assertEqual(told[:2], [True, faulty_of(PROGRAM, stand)])
            self.assertEqual(told[2:5], [steps_of(PROGRAM, stand, hand) for hand in range(3)])
            self.assertEqual(told[5:], [("NoHand", hand) for hand in HANDS[3:]])

    def test_of_what_is_none(self):
        kinds = {True: 0, False: 0}
        for stand, others in walks():
            for other in others:
                told = answers_of(other)
                kinds[told[0]] += 1
                if not told[0]:
                    self.assertEqual(told[1:], [("NoStand", "")] * (len(HANDS) + 1))
        self.assertGreater(min(kinds.values()), 500)

    def test_they_are_those_that_they_were(self):
        told = hashlib.sha256()
        for stand, others in walks():
            for thing in [stand] + others:
                told.update(repr(answers_of(thing)).encode())
        self.assertEqual(told.hexdigest(), WAS)


class Calls(unittest.TestCase):
    """How long an ask takes hangs on the machine; how many calls of own functions it makes doesn't."""

    def calls(self, ask, *things):
        found = []
        sys.setprofile(lambda frame, event, argument: found.append(event) if event == "call" else None)
        try:
            ask(*things)
        finally:
            sys.setprofile(None)
        return len(found)

    def test_a_look_makes_few_calls(self):
        # 22 rows, 16 names and 5 boxes: less than a call for each of them.
        self.assertLessEqual(self.calls(look_at_program, PROGRAM), 32)

    def test_an_ask_makes_few_more_than_the_look(self):
        look = self.calls(look_at_program, PROGRAM)
        stand = first_stand(PROGRAM)
        self.assertLessEqual(self.calls(is_stand, PROGRAM, (1,)), look + 4)
        self.assertLessEqual(self.calls(is_stand, PROGRAM, stand), look + 10)
        self.assertLessEqual(self.calls(fault_at, PROGRAM, stand), look + 14)
        self.assertLessEqual(self.calls(steps, PROGRAM, stand, 0), look + 18)

    def test_what_an_ask_costs_hangs_on_the_rows_asked_for_alone(self):
        longer = replaced(PROGRAM, (1, 2, 2, 1, 1), (("back",),) * 1000)
        for asked in (0, 1):
            look = self.calls(look_at_program, longer) - self.calls(look_at_program, PROGRAM)
            more = self.calls(steps, longer, first_stand(longer), asked) - self.calls(steps, PROGRAM, first_stand(PROGRAM), asked)
            self.assertEqual((look, more), (0, 0))


if __name__ == "__main__":
    unittest.main()
