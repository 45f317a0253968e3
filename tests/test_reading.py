"""Marks read, and what goes on: points [21] to [25], and [9] as far as it speaks of these."""

import unittest

from spinemarks.errors import NoMark, NoText
from spinemarks.reading import begins, goes_on, next_signs, read_mark
from tests.helper import NO_TEXTS, SIGNS, TEXTS, Case, begins_mark, first_signs, is_mark, marred, parts_of

FIGURES = "0123456789"
SMALL = "abcdefghijklmnopqrstuvwxyz"
# Each text, and just the signs that go on behind it.
GO_ON = {
    "": SMALL,
    "q": "123456789" + SMALL,
    "qa": "123456789" + SMALL,
    "qab": "123456789",
    "q1": " ." + FIGURES,
    "q123": " ." + FIGURES,
    "q1234": " .",
    "q1.": FIGURES,
    "q1.0": FIGURES,
    "q1.50": FIGURES,
    "q1.5": " " + FIGURES,
    "q1 ": "12" + SMALL,
    "q1.5 ": "12" + SMALL,
    "q1 c": "." + FIGURES,
    "q1 k": FIGURES,
    "q1 k0": FIGURES,
    "q1 k50": FIGURES,
    "q1 c0": FIGURES,
    "q1 k5": " " + FIGURES,
    "q1 c5": " " + FIGURES,
    "q1 k5 ": "12" + SMALL,
    "q1 k5 w6 c": "." + FIGURES,
    "q1 k5 w6 y": FIGURES,
    "q1 k5 w6 y70": FIGURES,
    "q1 k5 w6 y7": " " + FIGURES,
    "q1 k5 w6 y7 ": "12c",
    "q1 k5 w6 y7 c": ".",
    "q1 1": FIGURES,
    "q1 199": FIGURES,
    "q1 1998": " ",
    "q1 k5 w6 y7 1998": " ",
    "q1 1998 ": "c",
    "q1 k5 1998 ": "c",
    "q1 1998 c": ".",
    "q1 c.": "123456789",
    "q1 c.1": FIGURES,
    "q1 c.2": FIGURES,
    "q1 c.10": FIGURES,
    "q1 1998 c.": "123456789",
}
NONE = (
    "1", " ", ".", "A", "Q1", "q0", "abcd", "q12345", "q1..", "q1. ", "q1.5.", "q1.0 ", "q1  ", "q1 0", "q1 3",
    "q1 kk", "q1 k ", "q1 k.", "q1 k0 ", "q1 k5.", "q1 k5 w6 y7 z", "q1 k5 w6 y7 c1", "q1 19985", "q1 1998 k",
    "q1 1998 1", "q1 1998 c1", "q1 c.0", "q1 c.1 ", "q1 c.2 ", "q1 c.2 1", "q1 c. ", "q1\n", "\n", "q1 k5\n",
    "\u00e4", "q\u0661", "q1.\u00b2", "q1 \u00e45", "q1/", "q1:", "q`", "q{",
)
LONG = (
    "qa76." + "0123456789" * 3 + "123456789" + "5",
    "abc9999." + "0" * 39 + "7",
    "q1 k" + "0" * 39 + "3 w" + "9" * 40 + " z" + "1" * 40 + " 2999 c." + "1" + "0" * 29,
    "q1 c." + "9" * 30,
)
MARRING = " .0123459abcdxz\nA"


def beginnings(text):
    return [text[:many] for many in range(len(text) + 1)]


class Begins(Case):
    def test_each_beginning_of_a_mark(self):
        for text in TEXTS + LONG:
            for beginning in beginnings(text):
                self.assertIs(begins(beginning), True, beginning)

    def test_the_text_without_signs(self):
        self.assertIs(begins(""), True)

    def test_what_begins_none(self):
        for text in NONE:
            self.assertIs(begins(text), False, text)
            self.assertIs(begins(text + "1"), False, text)

    def test_marred_texts(self):
        for text in TEXTS:
            for other in marred(text, MARRING):
                self.assertIs(begins(other), begins_mark(other), other)


class NextSigns(Case):
    def test_what_goes_on(self):
        for text, signs in GO_ON.items():
            self.assertEqual(next_signs(text), list(signs), text)

    def test_behind_each_beginning_of_a_mark(self):
        for text in TEXTS + LONG:
            for beginning in beginnings(text):
                signs = [sign for sign in SIGNS if begins_mark(beginning + sign)]
                self.assertEqual(next_signs(beginning), signs, beginning)

    def test_they_rise(self):
        for text in GO_ON:
            signs = next_signs(text)
            self.assertEqual(signs, sorted(set(signs)))

    def test_all_other_signs_begin_none(self):
        for text in GO_ON:
            signs = next_signs(text)
            for sign in map(chr, range(256)):
                self.assertIs(begins(text + sign), sign in signs, text + sign)

    def test_none_where_no_mark_goes_on(self):
        for text in NONE:
            self.assertEqual(next_signs(text), [], text)

    def test_a_new_list_each_time(self):
        for text in ("", "q1", "q0"):
            told = next_signs(text)
            kept = list(told)
            told.append("?")
            self.assertEqual(next_signs(text), kept)


class ReadMark(Case):
    def test_texts_of_marks(self):
        for text in TEXTS + LONG:
            mark = read_mark(text)
            self.assertEqual(mark.parts(), parts_of(text))
            self.assertEqual(str(mark), text)

    def test_parts_written_out(self):
        parts = ("qa", 76, "9", ("k52", "w61"), 1998, 2)
        self.assertEqual(read_mark("qa76.9 k52 w61 1998 c.2").parts(), parts)
        self.assertEqual(read_mark("q1 c5 c.5").parts(), ("q", 1, "", ("c5",), None, 5))

    def test_a_text_that_begins_a_mark_but_is_none(self):
        for text in TEXTS:
            for beginning in beginnings(text):
                if not is_mark(beginning):
                    self.refuses(NoMark, len(beginning), read_mark, beginning)

    def test_numbers_written_out(self):
        rows = {
            "": 0, "q": 1, "q1.": 3, "q1.0": 4, "q1.50": 5, "q1 ": 3, "q1 k": 4, "q1 k0": 5, "q1 c": 4, "q1 c.": 5,
            "q1 c.1": 6, "q1 199": 6, "q1 1998 ": 8, "1": 0, "q0": 1, "abcd1": 3, "q12345": 5, "q1.5.": 4, "q1  ": 3,
            "q1 3000": 3, "q1 999": 3, "q1 1998 k5": 8, "q1 k5 w6 y7 z8": 12, "q1 k5 w6 y7 c8": 13, "q1 c.1 ": 6,
            "q1 c.0": 5, "q1 c.2 1998": 6, "q1\n": 2, "Q1": 0, " q1": 0, "q1 c.2\n": 6,
        }
        for text, many in rows.items():
            self.refuses(NoMark, many, read_mark, text)

    def test_marred_texts(self):
        for text in TEXTS:
            for other in marred(text, MARRING):
                if is_mark(other):
                    self.assertEqual(str(read_mark(other)), other)
                else:
                    self.refuses(NoMark, first_signs(other), read_mark, other)

    def test_long_marred_texts(self):
        text = "q1." + "0" * 39 + "7 k" + "5" * 39 + "x"
        self.refuses(NoMark, len(text) - 1, read_mark, text)
        self.refuses(NoMark, 240, read_mark, "q1." + "0" * 237)
        self.assertEqual(str(read_mark("q1." + "7" * 237)), "q1." + "7" * 237)


class GoesOn(Case):
    def test_as_few_signs_as_can_be(self):
        # How many signs the shortest mark that begins so has more.
        rows = {
            "": 2, "q": 1, "qab": 1, "q1": 0, "q1.": 1, "q1.0": 1, "q1.5": 0, "q1 ": 2, "q1 c": 1, "q1 k": 1,
            "q1 k0": 1, "q1 k5": 0, "q1 k5 w6 ": 2, "q1 k5 w6 y7 ": 3, "q1 k5 w6 y7 c": 2, "q1 1": 3, "q1 19": 2,
            "q1 199": 1, "q1 1998": 0, "q1 1998 ": 3, "q1 1998 c": 2, "q1 c.": 1, "q1 c.1": 1, "q1 c.2": 0,
        }
        for text, more in rows.items():
            mark = goes_on(text)
            self.assertTrue(str(mark).startswith(text))
            self.assertEqual(len(mark), len(text) + more, text)

    def test_beginnings_of_marks(self):
        for text in TEXTS + LONG:
            for beginning in beginnings(text):
                mark = goes_on(beginning)
                self.assertTrue(str(mark).startswith(beginning))
                self.assertEqual(mark.parts(), parts_of(str(mark)))
                if is_mark(beginning):
                    self.assertEqual(str(mark), beginning)

    def test_none_where_no_mark_goes_on(self):
        for text in NONE:
            self.assertIsNone(goes_on(text), text)


class ManyFigures(Case):
    """Texts in which many figures stand in a row, marred at each place."""

    TEXTS = (
        "abc9999." + "1" * 40 + " a" + "1" * 40 + " b" + "1" * 40 + " c" + "1" * 40 + " 2999 c." + "9" * 30,
        "q1.05 c" + "0" * 30 + "5 1998 c.1" + "0" * 20, "q1 c.1" + "0" * 60, "a1." + "10" * 30 + "1 c5 c.15",
    )

    def test_each_beginning(self):
        for text in self.TEXTS:
            for beginning in beginnings(text):
                self.assertIs(begins(beginning), True, beginning)
                self.assertEqual(next_signs(beginning), [sign for sign in SIGNS if begins_mark(beginning + sign)])
                self.assertTrue(str(goes_on(beginning)).startswith(beginning))

    def test_marred_at_each_place(self):
        for text in self.TEXTS:
            for at, other in enumerate(sorted(set(marred(text, " .0c\u0665")))):
                many = first_signs(other)
                self.assertIs(begins(other), many == len(other), other)
                if at % 20 == 0:
                    self.assertEqual(next_signs(other), [sign for sign in SIGNS if begins_mark(other + sign)])
                if is_mark(other):
                    self.assertEqual(read_mark(other).parts(), parts_of(other))
                else:
                    self.refuses(NoMark, many, read_mark, other)

    def test_figures_where_not_any_may_follow(self):
        for text, many in (
            ("q" + "1" * 60, 5), ("1" * 60, 0), ("q1 " + "1" * 60, 7), ("q1 c." + "0" * 60, 5), ("q1 k5 c.0" + "1" * 60, 8),
            ("q1 k5 w6 y7 " + "5" * 60, 12), ("q1 1998 c" + "5" * 60, 9), ("q1 a1 a1 a1 c" + "5" * 60, 13),
        ):
            self.refuses(NoMark, many, read_mark, text)
            self.assertEqual(first_signs(text), many)


class NoTexts(Case):
    def test_all_four_questions(self):
        for thing in NO_TEXTS:
            for question in (begins, next_signs, read_mark, goes_on):
                self.refuses(NoText, thing, question, thing)


if __name__ == "__main__":
    unittest.main()
