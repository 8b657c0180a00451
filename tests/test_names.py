"""Whole numbers and names."""

import unittest

from fewturnsover.names import is_name, is_whole
from tests.samples import anything

LETTERS = "abcdefghijklmnopqrstuvwxyz"


class WholeNumbers(unittest.TestCase):
    def test_numbers(self):
        for number in (0, 1, 2, -1, -7, 10 ** 29, -10 ** 29):
            self.assertIs(is_whole(number), True)

    def test_truths_are_none(self):
        self.assertIs(is_whole(True), False)
        self.assertIs(is_whole(False), False)

    def test_things_of_every_kind(self):
        for thing in anything():
            self.assertIs(is_whole(thing), type(thing) is int)

    def test_by_name(self):
        self.assertIs(is_whole(thing=4), True)


class Names(unittest.TestCase):
    def test_each_letter(self):
        for letter in LETTERS:
            self.assertIs(is_name(letter), True)
            self.assertIs(is_name("z" + letter), True)

    def test_each_length(self):
        for many in range(12):
            self.assertIs(is_name("q" * many), 1 <= many <= 8)

    def test_eight_and_nine_letters(self):
        self.assertIs(is_name("abcdefgh"), True)
        self.assertIs(is_name("abcdefghi"), False)

    def test_every_other_sign(self):
        for code in list(range(32, 127)) + [10]:
            sign = chr(code)
            for text in (sign, "a" + sign, sign + "a", "ab" + sign + "cd"):
                self.assertIs(is_name(text), sign in LETTERS, repr(text))

    def test_capitals_figures_blanks_line_feeds(self):
        for text in ("", "A", "aBc", "ABC", "a1", "1a", "12", " ", "a b", " a", "a ", "\n", "a\n", "\na", "a\nb", "a_b"):
            self.assertIs(is_name(text), False, repr(text))

    def test_things_of_every_kind(self):
        fits = ("a", "abcdefgh", "set", "back")
        for thing in anything():
            self.assertIs(is_name(thing), type(thing) is str and thing in fits)

    def test_texts_within_things_are_none(self):
        for thing in (["a"], ("a",), {"a": "a"}, {"a"}, b"a", [("a",)]):
            self.assertIs(is_name(thing), False)

    def test_by_name(self):
        self.assertIs(is_name(thing="abc"), True)


if __name__ == "__main__":
    unittest.main()
