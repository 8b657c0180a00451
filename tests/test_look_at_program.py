"""What a program is, and where that is refused which is none."""

import copy
import itertools
import unittest

from fewturnsover.errors import NoProgram
from fewturnsover.programs import look_at_program
from tests.samples import BACK, FAULT, RICH, anything, item_at, never, of_hands, one_hand, paths, replaced

NOWHERE = (None, None, None)


def names(many):
    """So many unlike names."""
    return ["".join(letters) for letters in itertools.islice(itertools.product("abcdefgh", repeat=3), many)]


def fields_for(path):
    """The fields that tell of what lies at the end of a path into a program."""
    if path[:1] != (1,) or len(path) < 2:
        return NOWHERE
    if len(path) < 4 or path[2] != 2:
        return (path[1], None, None)
    if len(path) < 6 or path[4] != 1:
        return (path[1], path[3], None)
    return (path[1], path[3], path[5])


class Looking(unittest.TestCase):
    def lets(self, thing):
        self.assertIsNone(look_at_program(thing))

    def refuses(self, thing, fields):
        with self.assertRaises(NoProgram) as caught:
            look_at_program(thing)
        refused = caught.exception
        self.assertEqual((refused.hand, refused.text, refused.row), fields)

    def row_is(self, good, row, own=(), boxes=(), rows=3):
        """Look at a row that stands behind a good one, in a text of so many rows."""
        program = one_hand([BACK, row] + [BACK] * (rows - 2), own, boxes)
        if good:
            self.lets(program)
        else:
            self.refuses(program, (0, 0, 1))


class Forms(Looking):
    def test_programs(self):
        self.lets(RICH)
        self.lets(one_hand([BACK]))
        self.assertIsNone(look_at_program(thing=one_hand([FAULT])))

    def test_things_of_every_kind(self):
        for thing in anything():
            self.refuses(thing, NOWHERE)

    def test_lengths_and_letters_of_names(self):
        for name in ("a", "z", "ab", "abcdefg", "abcdefgh", "zzzzzzzz", "abcdefghi", "abcdefghij", "", "A", "aB", "a1", "a_", "a b", " a"):
            good = name.isalpha() and name.islower() and len(name) <= 8
            for program, fields in (
                (one_hand([BACK], boxes=(("x", 2), (name, 2))), NOWHERE),
                (one_hand([BACK], own=(("x", 2), (name, 2))), (0, None, None)),
                (((), (("first", (), (("top", (BACK,)),)), (name, (), (("top", (BACK,)),)))), (1, None, None)),
                (((), (("first", (), (("top", (BACK,)), (name, (BACK,)))),)), (0, 1, None)),
            ):
                self.lets(program) if good else self.refuses(program, fields)

    def test_never_fits_anywhere(self):
        for path in paths(RICH):
            for thing in never():
                # A tuple in the stead of hands, texts or rows is one of these, whose first one is none.
                within = path + (0,) if isinstance(thing, tuple) else path
                self.refuses(replaced(RICH, path, thing), fields_for(within))

    def test_anything_anywhere_is_let_by_or_refused(self):
        for path in paths(RICH):
            for thing in anything():
                try:
                    self.assertIsNone(look_at_program(replaced(RICH, path, thing)))
                except NoProgram:
                    pass

    def test_lists_for_tuples(self):
        for path in paths(RICH):
            found = item_at(RICH, path)
            if isinstance(found, tuple):
                self.refuses(replaced(RICH, path, list(found)), fields_for(path))

    def test_tuples_of_other_lengths(self):
        hand = RICH[1][0]
        self.refuses(RICH + ((),), NOWHERE)
        self.refuses(RICH[:1], NOWHERE)
        for wrong in (hand + ((),), hand[:2], ()):
            self.refuses(replaced(RICH, (1, 0), wrong), (0, None, None))
        text = hand[2][1]
        for wrong in (text + ((),), text[:1], ()):
            self.refuses(replaced(RICH, (1, 0, 2, 1), wrong), (0, 1, None))
        for wrong in (("x",), ("x", 2, 2), ()):
            self.refuses(replaced(RICH, (0, 0), wrong), NOWHERE)
            self.refuses(replaced(RICH, (1, 0, 1, 0), wrong), (0, None, None))

    def test_what_is_handed_in_stays(self):
        things = [[(), []], ({}, [1, [2]]), [["x", 2], {"a": [1]}], (((("x", 2),), [["main", [], []]]))]
        for thing in things:
            before = copy.deepcopy(thing)
            with self.assertRaises(NoProgram):
                look_at_program(thing)
            self.assertEqual(thing, before)
        row = ["set", "x", ["to", 1]]
        self.refuses(one_hand([row], boxes=(("x", 2),)), (0, 0, 0))
        self.assertEqual(row, ["set", "x", ["to", 1]])

    def test_asked_twice_alike(self):
        for wanted in range(2):
            self.lets(RICH)
            self.refuses(one_hand([BACK, ()]), (0, 0, 1))


class Bounds(Looking):
    def test_common_boxes(self):
        for many in range(9):
            self.lets(one_hand([BACK], boxes=tuple((name, 2) for name in names(many))))
        self.refuses(one_hand([BACK], boxes=tuple((name, 2) for name in names(9))), NOWHERE)

    def test_sizes_of_common_boxes(self):
        for size in range(-1, 8):
            program = one_hand([BACK], boxes=(("y", 2), ("x", size)))
            self.lets(program) if 1 <= size <= 4 else self.refuses(program, NOWHERE)

    def test_own_boxes(self):
        for many in range(25):
            self.lets(one_hand([BACK], own=tuple((name, 2) for name in names(many))))
        self.refuses(one_hand([BACK], own=tuple((name, 2) for name in names(25))), (0, None, None))

    def test_sizes_of_own_boxes(self):
        for size in range(-1, 12):
            program = one_hand([BACK], own=(("y", 2), ("x", size)))
            self.lets(program) if 1 <= size <= 8 else self.refuses(program, (0, None, None))

    def test_hands(self):
        for many in range(7):
            program = ((), tuple((name, (), (("top", (BACK,)),)) for name in names(many)))
            self.lets(program) if 1 <= many <= 4 else self.refuses(program, NOWHERE)

    def test_texts(self):
        for many in range(35):
            program = ((), (("main", (), tuple((name, (BACK,)) for name in names(many))),))
            self.lets(program) if 1 <= many <= 32 else self.refuses(program, (0, None, None))

    def test_rows(self):
        for many in (0, 1, 2, 1999, 2000, 2001):
            program = one_hand([BACK] * many)
            self.lets(program) if 1 <= many <= 2000 else self.refuses(program, (0, 0, None))

    def test_the_most_of_all(self):
        common = tuple((name, 4) for name in names(8))
        own = tuple((name, 8) for name in names(32)[8:])
        texts = tuple((name, (BACK,) * 50 + (("go", (0, 1, 2, 51)),)) for name in names(32))
        self.lets((common, tuple((name, own, texts) for name in names(4))))


class NamesAlike(Looking):
    def test_common_boxes(self):
        self.refuses(one_hand([BACK], boxes=(("x", 2), ("y", 2), ("x", 3))), NOWHERE)

    def test_own_boxes(self):
        self.refuses(one_hand([BACK], own=(("x", 2), ("y", 2), ("x", 3))), (0, None, None))

    def test_own_box_and_common_box(self):
        for own in ((("x", 2),), (("y", 2), ("x", 3))):
            self.refuses(one_hand([BACK], own=own, boxes=(("z", 2), ("x", 2))), (0, None, None))

    def test_own_boxes_of_two_hands_may_be_alike(self):
        hand = (("x", 2),), (("top", (("set", "x", ("to", 1)),)),)
        self.lets(((), (("one",) + hand, ("two",) + hand)))

    def test_the_later_hand_is_none(self):
        hand = (), (("top", (BACK,)),)
        self.refuses(((), (("one",) + hand, ("two",) + hand, ("one",) + hand)), (2, None, None))
        self.refuses(((), (("one",) + hand, ("one",) + hand)), (1, None, None))

    def test_the_later_text_is_none(self):
        texts = (("a", (BACK,)), ("b", (BACK,)), ("a", (BACK,)))
        self.refuses(((), (("one", (), texts),)), (0, 2, None))
        self.refuses(((), (("one", (), texts[:1] * 2),)), (0, 1, None))

    def test_texts_of_two_hands_may_be_alike(self):
        self.lets(of_hands([[BACK], [BACK]], [[BACK], [BACK]]))

    def test_box_text_and_hand_may_be_alike(self):
        self.lets(((("same", 2),), (("same", (("own", 2),), (("same", (BACK,)), ("own", (BACK,)))),)))


class Rows(Looking):
    boxes = (("x", 2), ("y", 3), ("w", 3))
    own = (("a", 2), ("b", 8))

    def is_row(self, row):
        self.row_is(True, row, self.own, self.boxes)

    def is_none(self, row):
        self.row_is(False, row, self.own, self.boxes)

    def test_rows_of_one_word(self):
        for row in (BACK, FAULT):
            self.is_row(row)
            self.is_none(row + (None,))
            self.is_none(row + row)

    def test_words_that_are_none(self):
        for row in ((), ("",), ("Back",), ("set",), ("any",), ("to", 1), ("other", "x"), ("halt",), ("back ",), (None,),
                    (0,), (("back",),), (b"back",), ("fault", "back"), "back", "fault", ["back"], None, 3, {}):
            self.is_none(row)

    def test_set_names_a_box(self):
        for box in ("x", "y", "w", "a", "b"):
            self.is_row(("set", box, ("to", 0)))
        for box in anything() + ["z", "top", "main", "ab"]:
            if type(box) is not str or box != "a":
                self.is_none(("set", box, ("to", 0)))

    def test_set_has_three(self):
        for row in (("set", "x"), ("set", "x", ("any",), ("any",)), ("set", ("any",)), ("set", "x", "to", 0)):
            self.is_none(row)

    def test_to(self):
        for box, size in self.boxes + self.own:
            for value in range(-1, 10):
                row = ("set", box, ("to", value))
                self.is_row(row) if 0 <= value < size else self.is_none(row)
        for source in (("to",), ("to", 0, 0), ("to", True), ("to", False), ("to", None), ("to", "0"), ("to", "x"), ("to", 0.0)):
            self.is_none(("set", "x", source))

    def test_of(self):
        sizes = dict(self.boxes + self.own)
        for box, other in itertools.product(sizes, repeat=2):
            row = ("set", box, ("of", other))
            self.is_row(row) if box != other and sizes[other] <= sizes[box] else self.is_none(row)
        for source in (("of",), ("of", "x", "x"), ("of", "z"), ("of", 0), ("of", None), ("of", ["x"]), ("of", ("x",)), ("of", "top")):
            self.is_none(("set", "b", source))

    def test_on(self):
        for box in ("x", "b"):
            for many in range(-2, 7):
                row = ("set", box, ("on", many))
                self.is_row(row) if 1 <= many <= 3 else self.is_none(row)
        for source in (("on",), ("on", 1, 1), ("on", True), ("on", None), ("on", "1"), ("on", 1.0)):
            self.is_none(("set", "x", source))

    def test_any(self):
        self.is_row(("set", "x", ("any",)))
        for source in (("any", 1), ("any", None), ("any", "any"), "any", ["any"]):
            self.is_none(("set", "x", source))

    def test_sources_that_are_none(self):
        for source in anything() + [("in", 1), ("To", 1), ("set", 1), ("", 1), (1, "to")]:
            fits = isinstance(source, tuple) and source and isinstance(source[0], str) and source[0] in ("any", "to")
            if not fits:
                self.is_none(("set", "x", source))

    def test_if(self):
        sizes = dict(self.boxes + self.own)
        for box in sizes:
            for value in range(-1, 10):
                row = ("if", box, value, 0)
                self.is_row(row) if 0 <= value < sizes[box] else self.is_none(row)
        for number in range(-2, 7):
            row = ("if", "x", 1, number)
            self.is_row(row) if 0 <= number <= 3 else self.is_none(row)
        for row in (("if", "x", 1), ("if", "x", 1, 0, 0), ("if", "z", 0, 0), ("if", ["x"], 0, 0), ("if", 0, 0, 0),
                    ("if", "x", True, 0), ("if", "x", 0, True), ("if", "x", 0, None), ("if", "x", None, 0), ("if", "x", 0, "a"),
                    ("if", "x", 0, (0,)), ("if",)):
            self.is_none(row)

    def test_go(self):
        for many in range(1, 5):
            for ways in itertools.combinations(range(4), many):
                self.is_row(("go", ways))
        for ways in ((), (4,), (-1,), (0, 4), (-1, 0), (1, 0), (0, 0), (0, 1, 1), (0, 2, 1), (1, 2, 3, 0), (True,), (0, True), (False, 1),
                     (None,), ("a",), ("0",), [0], 0, None, "0", {}, ((0,),), (0, (1,)), ([],)):
            self.is_none(("go", ways))
        for row in (("go",), ("go", 0), ("go", 0, 1), ("go", (0,), (1,))):
            self.is_none(row)

    def test_go_has_four_at_most(self):
        self.row_is(True, ("go", (0, 1, 2, 3)), rows=9)
        self.row_is(False, ("go", (0, 1, 2, 3, 4)), rows=9)

    def test_numbers_of_rows_go_to_the_end_of_their_own_text(self):
        long, short = (BACK,) * 9, (("go", (1,)), ("if", "x", 0, 2))
        self.lets(((("x", 2),), (("main", (), (("a", long), ("b", short))),)))
        wrong = (("go", (1,)), ("if", "x", 0, 3))
        self.refuses(((("x", 2),), (("main", (), (("a", long), ("b", wrong))),)), (0, 1, 1))
        wrong = (BACK, ("go", (1, 3)))
        self.refuses(((), (("main", (), (("a", long), ("b", wrong))),)), (0, 1, 1))

    def test_call(self):
        self.is_row(("call", "top"))
        for text in anything() + ["main", "x", "sub", "TOP"]:
            self.is_none(("call", text))
        for row in (("call",), ("call", "top", "top"), ("call", "top", 0)):
            self.is_none(row)

    def test_call_names_a_text_of_the_same_hand(self):
        self.lets(of_hands([[("call", "b")], [("call", "a")]], [[("call", "a")]]))
        self.refuses(of_hands([[BACK], [BACK]], [[BACK, ("call", "b")]]), (1, 0, 1))

    def test_wait(self):
        sizes = dict(self.boxes + self.own)
        for box in sizes:
            for value in range(-1, 10):
                row = ("wait", box, value)
                self.is_row(row) if 0 <= value < sizes[box] else self.is_none(row)
        for row in (("wait",), ("wait", "x"), ("wait", "x", 0, 0), ("wait", "z", 0), ("wait", ("x",), 0), ("wait", "x", False),
                    ("wait", "x", None), ("wait", "x", "y"), ("wait", 0, 0)):
            self.is_none(row)

    def test_begin_names_another_hand(self):
        self.lets(of_hands([[("begin", "handb")]], [[("begin", "handa")]]))
        self.refuses(of_hands([[("begin", "handb")]], [[BACK, ("begin", "handb")]]), (1, 0, 1))
        for hand in anything() + ["handa", "handc", "b", 1]:
            self.refuses(of_hands([[("begin", hand)]], [[BACK]]), (0, 0, 0))
        for row in (("begin",), ("begin", "handb", "handb")):
            self.refuses(of_hands([[row]], [[BACK]]), (0, 0, 0))

    def test_own_boxes_of_other_hands_are_none(self):
        texts = (("top", (("wait", "a", 0),)),)
        self.lets(((), (("one", (("a", 2),), texts), ("two", (("a", 2),), texts))))
        self.refuses(((), (("one", (("a", 2),), texts), ("two", (), texts))), (1, 0, 0))
        self.refuses(((), (("one", (), texts), ("two", (("a", 2),), texts))), (0, 0, 0))

    def test_sizes_are_the_hands_own(self):
        texts = (("top", (("set", "a", ("to", 2)),)),)
        self.refuses(((), (("one", (("a", 3),), texts), ("two", (("a", 2),), texts))), (1, 0, 0))


class TwoFaults(Looking):
    """Of two faults that which is looked at first is told."""

    order = [
        ((0, 0), NOWHERE),
        ((1, 0), (0, None, None)),
        ((1, 0, 2, 0), (0, 0, None)),
        ((1, 0, 2, 1), (0, 1, None)),
        ((1, 1, 0), (1, None, None)),
        ((1, 1, 2, 0, 0), (1, 0, None)),
        ((1, 2, 1), (2, None, None)),
        ((1, 2, 2, 0, 1), (2, 0, None)),
        ((1, 0, 2, 0, 1, 0), (0, 0, 0)),
        ((1, 0, 2, 0, 1, 4), (0, 0, 4)),
        ((1, 0, 2, 1, 1, 2), (0, 1, 2)),
        ((1, 1, 2, 0, 1, 1, 1), (1, 0, 1)),
        ((1, 2, 2, 0, 1, 0), (2, 0, 0)),
    ]

    def test_the_earlier_one_is_told(self):
        for (first, fields), (second, others) in itertools.combinations(self.order, 2):
            if second[:len(first)] == first:
                continue
            self.refuses(replaced(replaced(RICH, second, None), first, None), fields)

    def test_too_many_hands_go_ahead_of_a_hand(self):
        self.refuses(((), (None,) * 5), NOWHERE)
        self.refuses(((), (None,) * 4), (0, None, None))

    def test_boxes_go_ahead_of_hands(self):
        self.refuses(((None,), (None,)), NOWHERE)
        self.refuses(([], (None,)), NOWHERE)

    def test_too_many_texts_go_ahead_of_a_text(self):
        self.refuses(((), (("main", (), (None,) * 33),)), (0, None, None))
        self.refuses(((), (("main", (), (None,) * 32),)), (0, 0, None))

    def test_too_many_rows_go_ahead_of_a_row(self):
        self.refuses(one_hand([None] * 2001), (0, 0, None))
        self.refuses(one_hand([None] * 2000), (0, 0, 0))

    def test_a_hands_texts_go_ahead_of_the_next_hand(self):
        self.refuses(((), (("one", (), (("top", ()),)), None)), (0, 0, None))
        self.refuses(((), (("one", (), (("top", (None,)),)), None)), (1, None, None))

    def test_a_text_of_a_name_alike_goes_ahead_of_the_next_hand(self):
        one = ("one", (), (("top", (BACK,)), ("top", (BACK,))))
        self.refuses(((), (one, one)), (0, 1, None))

    def test_a_later_hand_goes_ahead_of_an_earlier_row(self):
        self.refuses(((), (("one", (), (("top", (None,)),)), ("two", (), (("top", None),)))), (1, 0, None))

    def test_rows_in_order(self):
        self.refuses(of_hands([[BACK, None], [None]], [[None]]), (0, 0, 1))
        self.refuses(of_hands([[BACK], [BACK, BACK, None, None]], [[None]]), (0, 1, 2))
        self.refuses(of_hands([[BACK], [BACK]], [[BACK, None, None]]), (1, 0, 1))

    def test_a_hand_of_a_name_alike_is_not_looked_at_further(self):
        one = ("one", (), (("top", (BACK,)),))
        self.refuses(((), (one, ("one", (), (("top", ()),)))), (1, None, None))


if __name__ == "__main__":
    unittest.main()
