"""Desks: programs kept by names, and asked about by rows of words."""

import random
import unittest

from fewturnsover.desk import Desk
from fewturnsover.endless import endless
from fewturnsover.errors import NoName, NoOrder, NoProgram, NoRow, NoText, TooMany
from fewturnsover.onehand import one_hand
from fewturnsover.programs import like_hands
from fewturnsover.texts import read_run, shown, shown_run
from fewturnsover.told import least_turns
from fewturnsover.runs import is_faulty
from tests.ordering import order_program
from tests.samples import BACK, DEEP, RICH, TWO, anything, of_hands
from tests.test_books import BEGUN, THREE
from tests.test_endless import AT_FIRST, NOBODY, NO_HAND
from tests.test_folding import LIKE_THREE, OTHER_BEGIN, TWO_LOTS
from tests.test_told import CALLS, SAFE, TURNS

PROGRAMS = (TWO, THREE, BEGUN, AT_FIRST, NOBODY, NO_HAND, LIKE_THREE, OTHER_BEGIN, TWO_LOTS, CALLS, SAFE, TURNS, DEEP, RICH)
WIDE = of_hands(*[[[("set", name, ("any",)) for name in "abc"]]] * 2, boxes=(("a", 4), ("b", 4), ("c", 4)))


def in_row(text):
    return text.replace("\n", "; ")


def kept(**programs):
    desk = Desk()
    for name, program in programs.items():
        desk.say("keep " + name + " " + in_row(shown(program)))
    return desk


class Answers(unittest.TestCase):
    def test_none_at_first(self):
        desk = Desk()
        self.assertEqual(len(desk), 0)
        self.assertEqual(desk.say("names"), "-")
        self.assertEqual(desk.say(row="names"), "-")

    def test_keep_names_show_and_drop(self):
        desk = Desk()
        self.assertEqual(desk.say("keep b boxes; hand a; text m; back"), "ok")
        self.assertEqual(desk.say("keep abcdefgh " + in_row(shown(RICH))), "ok")
        self.assertEqual((len(desk), desk.say("names")), (2, "abcdefgh b"))
        self.assertEqual(desk.say("show b"), "boxes; hand a; text m; back")
        self.assertEqual(desk.say("show abcdefgh"), in_row(shown(RICH)))
        self.assertEqual(desk.say("drop b"), "ok")
        self.assertEqual((len(desk), desk.say("names")), (1, "abcdefgh"))
        self.assertEqual(desk.say("drop abcdefgh"), "ok")
        self.assertEqual((len(desk), desk.say("names")), (0, "-"))

    def test_a_name_kept_anew(self):
        desk = kept(a=TWO)
        self.assertEqual(desk.say("keep a " + in_row(shown(THREE))), "ok")
        self.assertEqual((len(desk), desk.say("show a")), (1, in_row(shown(THREE))))

    def test_eight_names_and_a_ninth(self):
        desk = Desk()
        text = in_row(shown(TWO))
        for name in "hgfedcba":
            self.assertEqual(desk.say(f"keep {name} {text}"), "ok")
        self.assertEqual((len(desk), desk.say("names")), (8, "a b c d e f g h"))
        with self.assertRaises(TooMany) as caught:
            desk.say(f"keep i {text}")
        self.assertEqual(caught.exception.many, 9)
        self.assertEqual((len(desk), desk.say("names")), (8, "a b c d e f g h"))
        # One that is kept may be kept anew; what the points refuse goes ahead of a ninth name.
        self.assertEqual(desk.say("keep c " + in_row(shown(THREE))), "ok")
        with self.assertRaises(NoText):
            desk.say("keep i wrong")
        with self.assertRaises(NoProgram):
            desk.say("keep i boxes x/9; hand a; text m; back")
        desk.say("drop d")
        self.assertEqual(desk.say(f"keep i {text}"), "ok")
        self.assertEqual(desk.say("names"), "a b c e f g h i")

    def test_least_and_run(self):
        for program in PROGRAMS:
            desk = kept(p=program)
            for many in range(5):
                found = least_turns(program, many)
                self.assertEqual(desk.say(f"least p {many}"), "none" if found is None else str(found[0]))
                told = desk.say(f"run p {many}")
                if found is None or not found[1]:
                    self.assertEqual(told, "-")
                else:
                    self.assertEqual(told, in_row(shown_run(found[1])))
                    self.assertIs(is_faulty(program, read_run(told.replace("; ", "\n"))), True)
        self.assertEqual(kept(p=AT_FIRST).say("least p 0"), "0")
        self.assertEqual(kept(p=AT_FIRST).say("run p 4"), "-")
        self.assertEqual(kept(p=NOBODY).say("run p 4"), "-")
        self.assertEqual(kept(p=NOBODY).say("least p 4"), "none")

    def test_safe(self):
        words = {"run": "no", "book": "yes", "open": "open"}
        found = set()
        for program in PROGRAMS:
            told = kept(p=program).say("safe p")
            self.assertEqual(told, words[endless(program, rounds=4)[0]])
            found.add(told)
        self.assertEqual(found, {"yes", "no", "open"})
        # Five turns lead to a fault, four rounds leave it open.
        self.assertEqual(kept(p=TURNS).say("safe p"), "open")

    def test_like(self):
        self.assertEqual(kept(p=LIKE_THREE).say("like p"), "0,1,2")
        self.assertEqual(kept(p=TWO_LOTS).say("like p"), "0,2 1,3")
        self.assertEqual(kept(p=OTHER_BEGIN).say("like p"), "0 1 2")
        self.assertEqual(kept(p=DEEP).say("like p"), "0")
        for program in PROGRAMS:
            wanted = " ".join(",".join(str(hand) for hand in lot) for lot in like_hands(program))
            self.assertEqual(kept(p=program).say("like p"), wanted)

    def test_one(self):
        for program in (TWO, THREE, BEGUN, AT_FIRST, NOBODY, CALLS):
            desk = kept(p=program)
            for order in ((0,), (0, 1), (1, 0), (0, 1, 0), (1, 1, 0, 0, 1, 1)):
                wanted = "none" if least_turns(one_hand(program, order), 1) is None else "fault"
                self.assertEqual(desk.say("one p " + ",".join(map(str, order))), wanted)
        self.assertEqual(kept(p=TWO).say("one p 0,1"), "fault")
        self.assertEqual(kept(p=TWO).say("one p 1,0"), "none")

    def test_by_chance(self):
        chance = random.Random(121)
        for count in range(60):
            program = order_program(chance, greatest=2)
            desk = kept(p=program)
            self.assertEqual(desk.say("show p").replace("; ", "\n"), shown(program))
            found = least_turns(program, 2)
            self.assertEqual(desk.say("least p 2"), "none" if found is None else str(found[0]))
            order = [chance.randrange(len(program[1])) for turn in range(chance.randint(1, 4))]
            wanted = "none" if least_turns(one_hand(program, tuple(order)), 1) is None else "fault"
            self.assertEqual(desk.say("one p " + ",".join(map(str, order))), wanted)

    def test_desks_by_themselves(self):
        one, other = kept(a=TWO), kept(b=TWO)
        self.assertEqual((one.say("names"), other.say("names")), ("a", "b"))

    def test_methods_stand_in_the_class_itself(self):
        for name in ("say", "__len__"):
            self.assertIn(name, vars(Desk))


class Refusals(unittest.TestCase):
    def setUp(self):
        self.desk = kept(a=TWO, b=WIDE)

    def refuses(self, error, row):
        before = len(self.desk), self.desk.say("names"), self.desk.say("show a"), self.desk.say("show b")
        with self.assertRaises(error) as caught:
            self.desk.say(row)
        self.assertEqual((len(self.desk), self.desk.say("names"), self.desk.say("show a"), self.desk.say("show b")), before)
        return caught.exception

    def test_things_that_are_no_text(self):
        for thing in anything():
            self.refuses(NoRow, thing)
        for thing in (b"names", ["names"], ("names",), ["show", "a"], 5):
            self.refuses(NoRow, thing)

    def test_rows_that_are_none(self):
        for row in ("", " ", "name", "names ", " names", "names a", "Names", "NAMES", "names\n", "show", "show ", "show  a", "show a ", " show a",
                    "show a b", "show a\n", "show A", "show abcdefghi", "show 1", "show a;", "drop", "drop ", "drop a b", "drop A", "keep", "keep ",
                    "keep a", "keep  a", "keep A boxes", "keep 1 boxes", "keep abcdefghi boxes", "keep  boxes", "least", "least a", "least a ",
                    "least a 5", "least a -1", "least a 01", "least a 00", "least a x", "least a 1 1", "least  a 1", "least a  1", "least a 1 ", "least 1 a",
                    "least a 10", "least a 1.0", "least a +1", "run", "run a", "run a 5", "run a x", "run a 1 1", "run A 1", "run a -", "safe", "safe a 4",
                    "safe A", "safe a ", "like", "like a 1", "like A", "like a b", "one", "one a", "one a ", "one a x", "one a 0,", "one a ,0", "one a 0,,1",
                    "one a 0 1", "one a 0, 1", "one a -1", "one a 00", "one a 0,01", "one A 0", "one a (0,)", "one a 0;1", "ask a", "shows a", "show,a",
                    "least a 1,2", "a", "ok", "none", "keep\na boxes", "show\ta"):
            self.refuses(NoRow, row)

    def test_no_names(self):
        for row in ("show c", "drop c", "least c 0", "least c 4", "run c 1", "safe c", "like c", "one c 0", "one c 0,1,2,3,0,1,2", "show names", "drop ok"):
            self.assertEqual(self.refuses(NoName, row).name, row.split(" ")[1])
        self.desk.say("keep c " + in_row(shown(TWO)))
        self.desk.say("drop c")
        self.assertEqual(self.refuses(NoName, "show c").name, "c")
        # What is none goes ahead of a name by which nothing is kept.
        for row in ("least c 5", "show c d", "one c x", "run c", "safe c 4", "like c ", "drop c c"):
            self.refuses(NoRow, row)

    def test_what_the_points_refuse(self):
        self.assertEqual(self.refuses(NoText, "keep c ").row, 0)
        self.assertEqual(self.refuses(NoText, "keep a ").row, 0)
        self.assertEqual(self.refuses(NoText, "keep a boxes; hand a; text m").row, 3)
        self.assertEqual(self.refuses(NoText, "keep a boxes; hand a; text m; back; ").row, 4)
        self.assertEqual(self.refuses(NoText, "keep a boxes; hand a; text m; back;").row, 3)
        self.assertEqual(self.refuses(NoText, "keep a boxes;hand a; text m; back").row, 0)
        self.assertEqual(self.refuses(NoText, "keep a  boxes; hand a; text m; back").row, 0)
        self.assertEqual(self.refuses(NoText, "keep a boxes;  hand a; text m; back").row, 1)
        refused = self.refuses(NoProgram, "keep a boxes; hand a; text m; back; call n")
        self.assertEqual((refused.hand, refused.text, refused.row), (0, 0, 1))
        self.assertEqual(self.refuses(TooMany, "least b 3").many, 400)
        self.assertEqual(self.refuses(TooMany, "run b 3").many, 400)
        self.assertEqual(self.refuses(TooMany, "safe b").many, 400)
        for order in ("2", "0,2", "0,0,0,0,0,0,0", "0,1,0,1,0,1,0", "9999"):
            self.refuses(NoOrder, "one a " + order)

    def test_too_many_of_an_order(self):
        names = "abcdefgh"
        rows = [("set", name, ("on", 1)) for name in names] + [("fault",)]
        self.desk.say("keep c " + in_row(shown(of_hands([rows], [rows], boxes=tuple((name, 4) for name in names)))))
        self.assertGreater(self.refuses(TooMany, "one c 0,1,0,1,0,1").many, 24)
        self.assertEqual(self.desk.say("one c 0"), "fault")

    def test_nothing_is_lost_by_a_refused_keep(self):
        before = self.desk.say("show a")
        for text in ("", "wrong", "boxes", "boxes x/9; hand a; text m; back"):
            with self.assertRaises((NoText, NoProgram)):
                self.desk.say("keep a " + text)
            self.assertEqual(self.desk.say("show a"), before)
        self.assertEqual(self.desk.say("keep a " + in_row(shown(of_hands([[BACK]])))), "ok")


if __name__ == "__main__":
    unittest.main()
