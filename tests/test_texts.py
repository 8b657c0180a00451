"""Programs and runs written as rows, and read back."""

import random
import re
import unittest

from fewturnsover.endless import endless
from fewturnsover.errors import NoProgram, NoText
from fewturnsover.programs import hands_of, like_hands, look_at_program
from fewturnsover.runs import is_faulty
from fewturnsover.stands import first_stand
from fewturnsover.texts import read, read_run, shown, shown_run
from fewturnsover.told import least_turns
from tests.ordering import order_program
from tests.reference import many_walks, some_program
from tests.samples import BACK, DEEP, RICH, TWO, anything, of_hands, one_hand
from tests.test_books import BEGUN, THREE
from tests.test_folding import PROGRAMS
from tests.test_told import TURNS

RICH_TEXT = """boxes x/2 y/3 one/1
hand main a/2 b/8
text top
set x to 1
set b of y
set y on 2
set a any
if a 1 6
go 0 3 7 9
call sub
wait x 1
begin aide
text sub
set b on 3
back
fault
hand aide a/4
text top
set x of one
if y 2 3
call top
hand third
text top
wait y 2
fault"""
NAME = "[a-z]{1,8}"
NUMBER = "(?:0|[1-9][0-9]{0,3})"
BOXES = f"(?: {NAME}/{NUMBER})*"
KINDS = (
    ("boxes", f"boxes{BOXES}"),
    ("hand", f"hand {NAME}{BOXES}"),
    ("text", f"text {NAME}"),
    ("row", f"set {NAME} (?:to {NUMBER}|of {NAME}|on {NUMBER}|any)|if {NAME} {NUMBER} {NUMBER}|go(?: {NUMBER})+"
            f"|call {NAME}|back|wait {NAME} {NUMBER}|begin {NAME}|fault"),
)
AHEAD = {"boxes": ("",), "hand": ("boxes", "row"), "text": ("hand", "row"), "row": ("text", "row")}


def wrong_row(text):
    """The number of the first row of a program that is wrong, or how many there are where some lack; else None."""
    rows = text.split("\n")
    last = ""
    for number, row in enumerate(rows):
        kinds = [kind for kind, form in KINDS if re.fullmatch(form, row)]
        if not kinds or last not in AHEAD[kinds[0]]:
            return number
        last = kinds[0]
    return None if last == "row" else len(rows)


def wrong_turn(text):
    """The number of the first row of a run that is wrong, or None."""
    for number, row in enumerate(text.split("\n") if text else []):
        if not re.fullmatch(f"{NUMBER}:(?: (?:{NUMBER}|-))+", row):
            return number
    return None


def changed(chance, text):
    """A text with something put otherwise."""
    rows = text.split("\n")
    at, other = chance.randrange(len(rows)), chance.randrange(len(rows))
    kind = chance.randrange(9)
    if kind == 0:
        del rows[at]
    elif kind == 1:
        rows.insert(other, rows[at])
    elif kind == 2:
        rows[at], rows[other] = rows[other], rows[at]
    elif kind == 3:
        return text[:chance.randrange(len(text) + 1)]
    elif kind == 4:
        rows.insert(at, chance.choice(["", " ", "go", "boxes", "hand zz", "text zz", "back", "fault", "hand zz p/2", "boxes p/2"]))
    elif kind == 5:
        words = rows[at].split(" ")
        place = chance.randrange(len(words))
        words[place] = chance.choice(["", "x", "1", "01", "9", "12345", "-1", "+1", "to", "of", "any", "abcdefghi", "A", "x/2", "1.0", "x/02", "x/"])
        rows[at] = " ".join(words)
    elif kind == 6:
        rows[at] = chance.choice([" " + rows[at], rows[at] + " ", rows[at].replace(" ", "  ", 1), rows[at] + " 1", rows[at].upper(), rows[at] + ";"])
    else:
        place = chance.randrange(len(text))
        sign = chance.choice("abcxyz0123456789 /;:-_\n")
        return text[:place] + chance.choice([sign, "", sign + text[place]]) + text[place + 1:]
    return "\n".join(rows)


class Written(unittest.TestCase):
    def test_as_told(self):
        self.assertEqual(shown(RICH), RICH_TEXT)
        self.assertEqual(read(RICH_TEXT), RICH)
        self.assertEqual(shown(program=one_hand([BACK])), "boxes\nhand main\ntext top\nback")
        self.assertEqual(read(text="boxes\nhand main\ntext top\nback"), one_hand([BACK]))

    def test_names_and_sizes(self):
        for name in ("a", "z", "abcdefgh", "zzzzzzzz", "boxes", "hand", "text", "set", "any", "to", "of", "on", "if", "go", "call", "back",
                     "wait", "begin", "fault"):
            for size in range(1, 9):
                boxes = ((name, min(size, 4)),)
                hand = ("o", (("own", size),), ((name, (("set", name, ("any",)), ("set", "own", ("to", size - 1)), ("call", name), BACK)),))
                other = (name, (), (("top", (("begin", "o"), ("if", name, 0, 2))),))
                self.reads_back((boxes, (hand, other)))

    def reads_back(self, program):
        text = shown(program)
        self.assertIsNone(look_at_program(program))
        self.assertEqual(read(text), program)
        self.assertEqual(shown(read(text)), text)
        self.assertIsNone(wrong_row(text))
        self.assertEqual(len(text.split("\n")), 1 + sum(1 + sum(1 + len(rows) for title, rows in hand[2]) for hand in program[1]))

    def test_every_program_is_read_back(self):
        for program in PROGRAMS + (RICH, TWO, DEEP, THREE, BEGUN, TURNS):
            self.reads_back(program)
        chance = random.Random(111)
        for count in range(200):
            self.reads_back(some_program(chance))
            self.reads_back(order_program(chance))

    def test_great_numbers(self):
        self.reads_back(one_hand([("go", (0, 7, 1000, 2000))] + [BACK] * 1998 + [("if", "x", 3, 2000)], boxes=(("x", 4),)))
        self.reads_back(of_hands(*[[[BACK]] * 8] * 4))

    def test_what_is_read_back_tells_alike(self):
        chance = random.Random(112)
        for count in range(40):
            program = order_program(chance, greatest=2)
            again = read(shown(program))
            self.assertEqual(first_stand(again), first_stand(program))
            self.assertEqual((hands_of(again), like_hands(again)), (hands_of(program), like_hands(program)))
            self.assertEqual(least_turns(again, 2), least_turns(program, 2))
            self.assertEqual(endless(again, rounds=2), endless(program, rounds=2))

    def test_no_program_is_shown(self):
        for thing in anything():
            with self.assertRaises(NoProgram):
                shown(thing)
        with self.assertRaises(NoProgram) as caught:
            shown(one_hand([BACK, None]))
        self.assertEqual((caught.exception.hand, caught.exception.text, caught.exception.row), (0, 0, 1))


class Refused(unittest.TestCase):
    def refuses(self, text, row):
        with self.assertRaises(NoText) as caught:
            read(text)
        self.assertEqual(caught.exception.row, row)

    def with_row(self, row):
        return "boxes x/2\nhand a p/2\ntext m\n" + row + "\ntext n\nback"

    def test_rows_that_are_none_by_themselves(self):
        for row in ("", " ", "a", "set", "set x", "set x to", "set x to 1 1", "set x to y", "set x to -1", "set x to +1", "set x to 01", "set x to 00",
                    "set x to 12345", "set x of", "set x of 1", "set x on", "set x on y", "set x any 1", "set x anyone", "set 1 any", "set X any",
                    "set xx_ any", "set abcdefghi any", "if x 1", "if x 1 1 1", "if x y 1", "if x 1 y", "if 1 1 1", "go", "go x", "go 1 x", "go 01",
                    "go 1 -1", "go 10000", "call", "call 1", "call m n", "call m ", "back 1", "back ", " back", "Back", "back back", "wait x",
                    "wait x y", "wait x 1 1", "wait 1 x", "begin", "begin 1", "begin a b", "fault 1", "fault ", "fault;", "text", "text 1", "text A",
                    "text m n", "text m p/2", "text abcdefghi", "hand", "hand 1", "hand a p", "hand a p/", "hand a /2", "hand a p/2/2", "hand a p/x",
                    "hand a p/02", "hand a p/-2", "hand a p/12345", "hand a 1/2", "hand a  p/2", "set  x any", "set x\tany", "set x any\t", "#", "to x 1",
                    "go  1", "go 1  2", "go 1,2", "x = 1"):
            self.refuses(self.with_row(row), 3)
        for row in ("", "box", "boxes x", "boxes x/", "boxes x/2 ", "boxes  x/2", "boxes X/2", "boxes x/02", "boxes x/2/2", "boxes /2", "boxes 1/2",
                    "boxes x/12345", "boxes abcdefghi/2", " boxes", "Boxes", "boxes:"):
            self.refuses(row + "\nhand a\ntext m\nback", 0)

    def test_rows_that_cannot_stand_there(self):
        for text, row in (("boxes\nboxes\nhand a\ntext m\nback", 1), ("hand a\ntext m\nback", 0), ("text m\nback", 0), ("back", 0),
                          ("boxes\ntext m\nback", 1), ("boxes\nback", 1), ("boxes\nhand a\nback", 2), ("boxes\nhand a\nhand b\ntext m\nback", 2),
                          ("boxes\nhand a\ntext m\ntext n\nback", 3), ("boxes\nhand a\ntext m\nhand b\ntext m\nback", 3),
                          ("boxes\nhand a\ntext m\nback\nboxes", 4), ("boxes\nhand a\ntext m\nboxes\nback", 3), ("boxes\nhand a\nboxes\nhand b", 2),
                          ("\nboxes\nhand a\ntext m\nback", 0), ("boxes\nhand a\ntext m\nback\n", 4), ("boxes\n\nhand a\ntext m\nback", 1)):
            self.refuses(text, row)

    def test_rows_that_lack(self):
        rows = RICH_TEXT.split("\n")
        for many in range(1, len(rows) + 1):
            text = "\n".join(rows[:many])
            if rows[many - 1].split(" ")[0] in ("boxes", "hand", "text"):
                self.refuses(text, many)
            else:
                self.assertNotIsInstance(self.answer(text), int)
        self.refuses("", 0)
        self.refuses("boxes", 1)
        self.refuses("\n", 0)

    def test_the_first_wrong_row_is_told(self):
        self.refuses("boxes\nhand a\ntext m\nback\nwrong\nhand", 4)
        self.refuses("boxes x/9\nhand a\ntext m\nback\nwrong", 4)
        self.refuses("boxes\nhand a\ntext m\ncall nobody\nback\ntext n", 6)

    def test_what_is_no_text(self):
        for thing in anything():
            if not isinstance(thing, str):
                self.refuses(thing, 0)
                with self.assertRaises(NoText) as caught:
                    read_run(thing)
                self.assertEqual(caught.exception.row, 0)

    def refuses_program(self, text, *fields):
        with self.assertRaises(NoProgram) as caught:
            read(text)
        self.assertEqual((caught.exception.hand, caught.exception.text, caught.exception.row), fields)

    def test_programs_that_are_none(self):
        self.refuses_program("boxes x/0\nhand a\ntext m\nback", None, None, None)
        self.refuses_program("boxes x/5\nhand a\ntext m\nback", None, None, None)
        self.refuses_program("boxes x/2 x/2\nhand a\ntext m\nback", None, None, None)
        self.refuses_program("boxes" + "".join(f" {name}/2" for name in "abcdefghi") + "\nhand a\ntext m\nback", None, None, None)
        self.refuses_program("boxes" + "".join(f"\nhand {name}\ntext m\nback" for name in "abcde"), None, None, None)
        self.refuses_program("boxes\nhand a p/9\ntext m\nback", 0, None, None)
        self.refuses_program("boxes\nhand a\ntext m\nback\nhand a\ntext m\nback", 1, None, None)
        self.refuses_program("boxes x/2\nhand a\ntext m\nback\nhand b x/2\ntext m\nback", 1, None, None)
        self.refuses_program("boxes\nhand a\ntext m\nback\ntext m\nback", 0, 1, None)
        self.refuses_program("boxes\nhand a" + "\ntext m\nback" * 33, 0, None, None)
        for row in ("set y any", "set x to 2", "set x to 9999", "set x on 0", "set x on 4", "set x of x", "set x of p", "if x 2 0", "if x 0 4", "go 0 0",
                    "go 2 1", "go 4", "go 0 1 2 3 3", "go 0 1 2 3 4", "call nobody", "wait x 2", "begin a", "begin nobody", "go 9999"):
            self.refuses_program("boxes x/2\nhand b\ntext m\nback\nhand a p/3\ntext l\nback\ntext m\nback\n" + row + "\nfault", 1, 1, 1)

    def answer(self, text):
        try:
            return read(text)
        except NoText as refused:
            return refused.row
        except NoProgram:
            return "none"

    def test_texts_put_otherwise(self):
        chance = random.Random(113)
        found = {}
        programs = [RICH, TWO, THREE, BEGUN] + [order_program(chance) for count in range(26)]
        for program in programs:
            text = shown(program)
            for count in range(150):
                other = text
                for time in range(chance.choice([1, 1, 2, 3])):
                    other = changed(chance, other) if other else other
                told = self.answer(other)
                wrong = wrong_row(other)
                if wrong is None:
                    self.assertNotIsInstance(told, int)
                    if told != "none":
                        self.assertEqual(shown(told), other)
                else:
                    self.assertEqual(told, wrong)
                kind = "wrong" if wrong is not None else "none" if told == "none" else "program"
                found[kind] = found.get(kind, 0) + 1
        self.assertGreater(min(found.values()), 200)


class Runs(unittest.TestCase):
    def test_as_told(self):
        self.assertEqual(shown_run([(0, [None, 2, None]), (1, [0])]), "0: - 2 -\n1: 0")
        self.assertEqual(read_run("0: - 2 -\n1: 0"), [(0, [None, 2, None]), (1, [0])])
        self.assertEqual(shown_run(run=[]), "")
        self.assertEqual(read_run(text=""), [])
        self.assertEqual(read_run("3: 2000\n3: -\n0: 9999"), [(3, [2000]), (3, [None]), (0, [9999])])

    def test_read_back(self):
        for program, path, stands in many_walks(114, 60):
            run = [(hand, [choice]) for hand, choice in path]
            self.assertEqual(read_run(shown_run(run)), run)
            chance = random.Random(115)
            while len(run) > 1:
                at = chance.randrange(len(run) - 1)
                if run[at][0] == run[at + 1][0]:
                    run[at:at + 2] = [(run[at][0], run[at][1] + run[at + 1][1])]
                else:
                    del run[at + 1]
                self.assertEqual(read_run(shown_run(run)), run)
        for program in (TWO, THREE, BEGUN, TURNS, DEEP):
            turns, run = least_turns(program, 5)
            self.assertIs(is_faulty(program, read_run(shown_run(run))), True)

    def refuses(self, text, row):
        with self.assertRaises(NoText) as caught:
            read_run(text)
        self.assertEqual(caught.exception.row, row)

    def test_rows_that_are_none(self):
        for row in (" ", "0", "0:", "0: ", "0:-", "0 : -", ": -", "-: -", "0: -  -", " 0: -", "0: - ", "00: -", "0: 00", "0: 01", "0: -1", "0: +1", "0: a",
                    "a: -", "0: 12345", "12345: 0", "0: None", "0:: -", "0: -;", "0: --", "0; -", "0:\t-", "-1: 0", "0: 1 2 x", "0, -"):
            self.refuses(row, 0)
            self.refuses("0: -\n" + row, 1)
            self.refuses("0: -\n" + row + "\n1: -\nwrong", 1)
        self.refuses("\n", 0)
        self.refuses("0: -\n", 1)
        self.refuses("\n0: -", 0)
        self.refuses("0: -\n\n0: -", 1)

    def test_put_otherwise(self):
        chance = random.Random(116)
        kinds = {True: 0, False: 0}
        for count in range(1500):
            text = "\n".join(" ".join([f"{chance.randint(0, 12)}:"] + [chance.choice(["-", "0", "7", "2000"]) for choice in range(chance.randint(1, 4))])
                             for turn in range(chance.randint(1, 4)))
            text = changed(chance, text)
            wrong = wrong_turn(text)
            kinds[wrong is None] += 1
            if wrong is None:
                self.assertEqual(shown_run(read_run(text)), text)
            else:
                self.refuses(text, wrong)
        self.assertGreater(min(kinds.values()), 200)

    def test_new_lists(self):
        run = [(0, [1]), (1, [None])]
        shown_run(run)
        self.assertEqual(run, [(0, [1]), (1, [None])])
        first = read_run("0: 1")
        first[0][1].append(2)
        self.assertEqual(read_run("0: 1"), [(0, [1])])


if __name__ == "__main__":
    unittest.main()
