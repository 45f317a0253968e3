"""Whole numbers, names, points and makers: point [11], with the kinds of points [2] and [3]."""

import unittest

from spinemarks.errors import NoText
from spinemarks.marks import Mark
from spinemarks.signs import is_maker, is_name, is_points, is_whole

THINGS = (None, True, False, 0, 5, -5, [], ["a"], (), ("1",), {}, {"a": 1}, Mark("a", 1), NoText("a"))
ODD_SIGNS = ("A", "Z", "_", "-", "/", ":", "`", "{", " ", "\n", "\u00e4", "\u00b2", "\u0663", "\uff11", "\uff41")


class WholeNumbers(unittest.TestCase):
    def test_from_low_to_high_both_counted(self):
        for low, high in ((0, 0), (1, 3), (-2, 2), (5, 10 ** 30)):
            for thing in (low, high, (low + high) // 2):
                self.assertIs(is_whole(thing, low, high), True)
            for thing in (low - 1, high + 1, low - 10 ** 30, high + 10 ** 30):
                self.assertIs(is_whole(thing, low, high), False)

    def test_none_where_low_is_above_high(self):
        for thing in (1, 2, 3, 4):
            self.assertIs(is_whole(thing, 3, 2), False)

    def test_no_high(self):
        for thing in (7, 8, 10 ** 30, 10 ** 5000):
            self.assertIs(is_whole(thing, 7), True)
            self.assertIs(is_whole(thing, 7, None), True)
            self.assertIs(is_whole(thing, 7, high=None), True)
        self.assertIs(is_whole(6, 7), False)
        self.assertIs(is_whole(-1, 0, None), False)

    def test_high_by_its_name(self):
        self.assertIs(is_whole(8, 7, high=8), True)
        self.assertIs(is_whole(9, 7, high=8), False)

    def test_a_high_of_0_is_one(self):
        self.assertIs(is_whole(1, -3, 0), False)
        self.assertIs(is_whole(0, -3, 0), True)

    def test_things_that_are_no_whole_numbers(self):
        for thing in (None, True, False, "", "1", "7", [], [1], (1,), {}, {1: 1}, Mark("a", 1), NoText(1)):
            self.assertIs(is_whole(thing, 0, 10), False)
            self.assertIs(is_whole(thing, -1), False)


class Names(unittest.TestCase):
    def test_one_to_six_small_letters(self):
        for thing in ("a", "z", "ab", "house", "abcdef", "zzzzzz"):
            self.assertIs(is_name(thing), True)
        for thing in ("", "abcdefg", "zzzzzzz"):
            self.assertIs(is_name(thing), False)

    def test_other_signs(self):
        for sign in ODD_SIGNS + ("0", "1", "9", "."):
            for thing in (sign, sign + "ab", "a" + sign + "b", "ab" + sign):
                self.assertIs(is_name(thing), False, thing)

    def test_things_that_are_no_texts(self):
        for thing in THINGS:
            self.assertIs(is_name(thing), False)


class Points(unittest.TestCase):
    def test_figures_of_which_the_last_is_no_0(self):
        for thing in ("1", "9", "05", "0001", "10203", "5" * 40, "0" * 39 + "1"):
            self.assertIs(is_points(thing), True)

    def test_a_text_without_signs(self):
        self.assertIs(is_points(""), True)

    def test_a_0_behind(self):
        for thing in ("0", "00", "10", "50", "0010", "1" * 39 + "0"):
            self.assertIs(is_points(thing), False)

    def test_other_signs(self):
        for sign in ODD_SIGNS + ("a", "z", "."):
            for thing in (sign, sign + "5", "5" + sign + "5", "5" + sign):
                self.assertIs(is_points(thing), False, thing)

    def test_things_that_are_no_texts(self):
        for thing in THINGS:
            self.assertIs(is_points(thing), False)


class Makers(unittest.TestCase):
    def test_a_letter_and_figures(self):
        for thing in ("a1", "z9", "k52", "c05", "c0001", "k" + "3" * 40):
            self.assertIs(is_maker(thing), True)

    def test_what_is_none(self):
        for thing in ("", "a", "5", "55", "ab", "ab1", "a0", "a10", "a00", "1a", "a1a", "a1a1", "a1 ", " a1", "a1 b1"):
            self.assertIs(is_maker(thing), False, thing)

    def test_other_signs(self):
        for sign in ODD_SIGNS + (".",):
            for thing in (sign, sign + "1", "a" + sign, "a" + sign + "1", "a1" + sign, sign + "a1"):
                self.assertIs(is_maker(thing), False, thing)

    def test_things_that_are_no_texts(self):
        for thing in THINGS + (["a1"], ("a", "1")):
            self.assertIs(is_maker(thing), False)


if __name__ == "__main__":
    unittest.main()
