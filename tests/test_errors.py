"""The refusals: their classes and fields."""

import unittest

from fewturnsover import errors
from tests.samples import anything

UNDER_TURNS = {
    "NoProgram": ("hand", "text", "row"),
    "NoRun": ("number", "at"),
    "NoStand": (),
    "NoMachine": (),
    "NoLimit": (),
    "NoOrder": (),
    "NoText": ("row",),
    "NoRow": (),
}
BESIDE = {
    "NoHand": (IndexError, ("hand",)),
    "NoPoint": (IndexError, ("point",)),
    "NoChoice": (KeyError, ("choice",)),
    "NoName": (KeyError, ("name",)),
    "TooMany": (OverflowError, ("many",)),
    "Bare": (RuntimeError, ()),
}


def all_refusals():
    found = [(name, errors.TurnsError, fields) for name, fields in UNDER_TURNS.items()]
    return found + [(name, under, fields) for name, (under, fields) in BESIDE.items()]


class Refusals(unittest.TestCase):
    def test_there_are_fourteen_and_the_one_above(self):
        self.assertEqual(len(all_refusals()), 14)
        own = [name for name, thing in vars(errors).items() if isinstance(thing, type)]
        self.assertEqual(sorted(own), sorted([name for name, under, fields in all_refusals()] + ["TurnsError"]))

    def test_turns_error_stands_under_value_error(self):
        self.assertEqual(errors.TurnsError.__bases__, (ValueError,))
        self.assertEqual(str(errors.TurnsError("why")), "why")

    def test_each_stands_straight_under_its_class_and_no_other(self):
        for name, under, fields in all_refusals():
            with self.subTest(name):
                self.assertEqual(getattr(errors, name).__bases__, (under,))

    def test_those_beside_are_no_turns_errors(self):
        for name in BESIDE:
            with self.subTest(name):
                self.assertFalse(issubclass(getattr(errors, name), errors.TurnsError))
                self.assertFalse(issubclass(getattr(errors, name), ValueError))

    def test_each_is_defined_here(self):
        for name, under, fields in all_refusals():
            self.assertEqual(getattr(errors, name).__module__, "fewturnsover.errors")

    def test_fields_by_place_and_by_name(self):
        for name, under, fields in all_refusals():
            things = [object() for field in fields]
            by_place = getattr(errors, name)(*things)
            by_name = getattr(errors, name)(**dict(zip(fields, things)))
            for made in (by_place, by_name):
                with self.subTest(name):
                    self.assertEqual(vars(made), dict(zip(fields, things)))

    def test_fields_of_every_kind(self):
        for name, under, fields in all_refusals():
            for at, field in enumerate(fields):
                for thing in anything():
                    made = getattr(errors, name)(*[thing if k == at else 7 for k in range(len(fields))])
                    self.assertIs(getattr(made, field), thing)
                    for other in fields:
                        if other != field:
                            self.assertEqual(getattr(made, other), 7)

    def test_each_is_raised_and_caught_by_the_class_above(self):
        for name, under, fields in all_refusals():
            with self.subTest(name), self.assertRaises(under):
                raise getattr(errors, name)(*fields)

    def test_each_has_words(self):
        for name, under, fields in all_refusals():
            self.assertTrue(str(getattr(errors, name)(*fields)))


if __name__ == "__main__":
    unittest.main()
