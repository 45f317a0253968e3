"""Marks, their parts, texts and order: points [3] to [7] and [12] to [14]."""

import unittest

from spinemarks.errors import NoCopy, NoLetters, NoMaker, NoMakers, NoNumber, NoPoints, NoYear
from spinemarks.marks import Mark
from tests.helper import TEXTS, Case, compared, mark_of, parts_of

FULL = ("qa", 76, "9", ["k52", "w61"], 1998, 2)

NO_LETTERS = (None, True, 7, "", "abcd", "A", "aB", "a1", "1", "a ", " a", "a\n", "\u00e4", ["a"], ("a",), {}, Mark("a", 1))
NO_NUMBERS = (None, True, False, 0, -1, 10000, 10 ** 29, "", "7", [7], (7,), {}, Mark("a", 1))
NO_POINTS = (None, True, False, 0, 5, "0", "10", "a", "5.5", ".5", "5 ", "5\n", "-5", ["5"], ("5",), {}, Mark("a", 1))
NO_MAKERS = (True, False, 0, 3, "", "k52", "abc", {}, {"k52": 1}, Mark("a", 1), ["k1"] * 4, ("k1",) * 4, [None] * 4)
NO_MAKER = (None, True, 5, "", "k", "k0", "k50", "kk5", "K5", "5", "k5 ", "k5\n", ["k5"], ("k5",), {}, Mark("a", 1))
NO_YEARS = (True, False, 0, 999, 3000, -1998, 19980, "", "1998", [1998], (1998,), {}, Mark("a", 1))
NO_COPIES = (True, False, 0, 1, -2, "", "2", [2], (2,), {}, Mark("a", 1))
TABLES = (
    (NoLetters, NO_LETTERS), (NoNumber, NO_NUMBERS), (NoPoints, NO_POINTS),
    (NoMakers, NO_MAKERS), (NoYear, NO_YEARS), (NoCopy, NO_COPIES),
)


class Making(Case):
    def test_parts_by_places(self):
        mark = Mark("qa", 76, "9", ["k52", "w61"], 1998, 2)
        self.assertEqual(mark.parts(), ("qa", 76, "9", ("k52", "w61"), 1998, 2))

    def test_parts_by_names(self):
        mark = Mark(copy=2, year=1998, makers=("k52",), points="9", number=76, letters="qa")
        self.assertEqual(mark.parts(), ("qa", 76, "9", ("k52",), 1998, 2))

    def test_parts_left_out(self):
        self.assertEqual(Mark("q", 1).parts(), ("q", 1, "", (), None, None))
        self.assertEqual(Mark("q", 1, makers=["k5"]).parts(), ("q", 1, "", ("k5",), None, None))
        self.assertEqual(Mark("q", 1, year=1998).parts(), ("q", 1, "", (), 1998, None))
        self.assertEqual(Mark("q", 1, copy=3).parts(), ("q", 1, "", (), None, 3))

    def test_edges(self):
        for letters in ("a", "z", "ab", "abc", "zzz"):
            self.assertEqual(Mark(letters, 1).letters(), letters)
        for number in (1, 2, 9998, 9999):
            self.assertEqual(Mark("q", number).number(), number)
        for points in ("", "1", "09", "5" * 40):
            self.assertEqual(Mark("q", 1, points).points(), points)
        for year in (None, 1000, 1001, 2998, 2999):
            self.assertEqual(Mark("q", 1, "", None, year).year(), year)
        for copy in (None, 2, 3, 10, 10 ** 30 - 1):
            self.assertEqual(Mark("q", 1, "", None, None, copy).copy_number(), copy)
        for makers in ([], ["k5"], ["k5", "k5"], ["c1", "b1", "a1"], ["k" + "5" * 40] * 3):
            self.assertEqual(Mark("q", 1, "", makers).makers(), tuple(makers))
            self.assertEqual(Mark("q", 1, "", tuple(makers)).makers(), tuple(makers))
        self.assertEqual(Mark("q", 1, "", None).makers(), ())

    def test_each_refusal_keeps_the_very_thing(self):
        for at, (kind, things) in enumerate(TABLES):
            for thing in things:
                parts = list(FULL)
                parts[at] = thing
                self.refuses(kind, thing, Mark, *parts)

    def test_makers_are_looked_at_one_by_one(self):
        for thing in NO_MAKER:
            for makers in ([thing], (thing,), ["k5", thing], ["k5", "k5", thing], [thing, "k5", "k5"], [thing, 0, ""]):
                self.refuses(NoMaker, thing, Mark, "q", 1, "", makers)

    def test_of_several_refusals_the_first_part_goes(self):
        for first, (kind, things) in enumerate(TABLES):
            for second in range(first + 1, len(TABLES)):
                parts = list(FULL)
                parts[first] = things[0]
                parts[second] = TABLES[second][1][0]
                self.refuses(kind, things[0], Mark, *parts)
        self.refuses(NoLetters, 0, Mark, 0, 0, 0, 0, 0, 0)
        self.refuses(NoMaker, "x", Mark, "q", 1, "", ["k5", "x"], 0, 0)
        self.refuses(NoPoints, 0, Mark, "q", 1, 0, ["x"])

    def test_makers_that_are_changed_afterwards(self):
        makers = ["k5", "w6"]
        mark = Mark("q", 1, "", makers)
        makers[0] = "x1"
        makers.append("y2")
        self.assertEqual(mark.makers(), ("k5", "w6"))
        self.assertEqual(str(mark), "q1 k5 w6")

    def test_makers_that_are_handed_in_stay(self):
        makers = ["k5", "w6"]
        Mark("q", 1, "", makers).with_copy(3)
        self.assertEqual(makers, ["k5", "w6"])


class Telling(unittest.TestCase):
    def test_parts(self):
        for text in TEXTS:
            mark = mark_of(text)
            parts = parts_of(text)
            told = (mark.letters(), mark.number(), mark.points(), mark.makers(), mark.year(), mark.copy_number())
            self.assertEqual(told, parts)
            self.assertEqual(mark.parts(), parts)
            self.assertIs(type(mark.parts()), tuple)
            self.assertIs(type(mark.makers()), tuple)

    def test_text_length_and_repr(self):
        for text in TEXTS:
            mark = mark_of(text)
            self.assertEqual(str(mark), text)
            self.assertEqual(len(mark), len(text))
            self.assertEqual(repr(mark), "<" + text + ">")

    def test_texts_written_out(self):
        self.assertEqual(str(Mark("qa", 76, "9", ["k52", "w61"], 1998, 2)), "qa76.9 k52 w61 1998 c.2")
        self.assertEqual(str(Mark("q", 9999, "", [], None, 10 ** 29)), "q9999 c.1" + "0" * 29)
        self.assertEqual(str(Mark("abc", 1, "0" * 39 + "1", None, 1000)), "abc1." + "0" * 39 + "1 1000")

    def test_unlike_marks_have_unlike_texts_and_are_not_equal(self):
        for one in TEXTS:
            for other in TEXTS:
                self.assertIs(mark_of(one) == mark_of(other), one == other)
                self.assertIs(mark_of(one) != mark_of(other), one != other)

    def test_what_is_no_mark_equals_none(self):
        mark = Mark("q", 1)
        for thing in (None, True, 1, "q1", "<q1>", ["q1"], mark.parts(), mark.key(), {}, NoCopy(mark)):
            self.assertIs(mark == thing, False)
            self.assertIs(thing == mark, False)
            self.assertIs(mark != thing, True)

    def test_each_part_tells_unlike_marks(self):
        full = mark_of("qa76.9 k52 w61 1998 c.2")
        for text in ("qb76.9 k52 w61 1998 c.2", "qa77.9 k52 w61 1998 c.2", "qa76.8 k52 w61 1998 c.2",
                     "qa76.9 k52 w62 1998 c.2", "qa76.9 k52 w61 1999 c.2", "qa76.9 k52 w61 1998 c.3"):
            self.assertFalse(full == mark_of(text))
        self.assertTrue(full == Mark("qa", 76, "9", ("k52", "w61"), 1998, 2))


# Each row rises, by the part that it is for.
RISING = (
    ("a1", "aa1", "aaa1", "aab1", "ab1", "az1", "azz1", "b1", "ba1", "z1", "zz1", "zzz1"),
    ("q1", "q2", "q9", "q10", "q76", "q90", "q100", "q999", "q1000", "q9999", "qa1"),
    ("q1", "q1.001", "q1.01", "q1.011", "q1.1", "q1.2", "q1.49", "q1.499", "q1.5", "q1.51", "q1.9", "q1.99", "q2"),
    ("q1", "q1 a1", "q1 a1 z9", "q1 a1 z9 z9", "q1 a11", "q1 a2", "q1 b05", "q1 b1", "q1 c1", "q1 d1", "q1 z9"),
    ("q1 k5", "q1 k5 a1", "q1 k5 a1 a1", "q1 k5 a1 a12", "q1 k5 a1 b1", "q1 k5 b1", "q1 k52", "q1 k6", "q1 l1"),
    ("q1", "q1 1000", "q1 1001", "q1 1998", "q1 2000", "q1 2999", "q1 a1", "q1 a1 1000", "q1 a1 a1"),
    ("q1", "q1 c.2", "q1 c.3", "q1 c.9", "q1 c.10", "q1 c.29", "q1 c.100", "q1 1000", "q1 1000 c.2", "q1 1001"),
    ("q1 c.999", "q1 2999 c.999", "q1 a1", "q1 z9 z9 z9 2999 c.999", "q1.001", "q2", "qa1", "r1"),
)


class Order(unittest.TestCase):
    def test_rows_that_rise(self):
        for row in RISING:
            marks = [mark_of(text) for text in row]
            for at, one in enumerate(marks):
                for second, other in enumerate(marks):
                    self.assertIs(one.ahead(other), at < second, (one, other))
                    self.assertIs(one.key() < other.key(), at < second)
                    self.assertIs(one.key() == other.key(), at == second)

    def test_keys_and_ahead_of_all_pairs(self):
        for one in TEXTS:
            for other in TEXTS:
                way = compared(one, other)
                first, second = mark_of(one), mark_of(other)
                self.assertIs(first.ahead(second), way < 0)
                self.assertIs(first.key() < second.key(), way < 0)
                self.assertIs(first.key() > second.key(), way > 0)
                self.assertIs(first.key() == second.key(), way == 0)

    def test_a_key_is_a_tuple(self):
        for text in TEXTS:
            self.assertIs(type(mark_of(text).key()), tuple)

    def test_equal_marks_have_equal_keys(self):
        self.assertEqual(Mark("q", 1, "", ["k5"]).key(), Mark("q", 1, "", ("k5",)).key())
        self.assertEqual(Mark("q", 1).key(), Mark("q", 1, "", [], None, None).key())


class OtherMarks(Case):
    def test_head_and_book(self):
        mark = mark_of("qa76.9 k52 w61 1998 c.2")
        self.assertEqual(mark.head().parts(), ("qa", 76, "9", (), None, None))
        self.assertEqual(mark.book().parts(), ("qa", 76, "9", ("k52", "w61"), 1998, None))
        self.assertEqual(str(mark), "qa76.9 k52 w61 1998 c.2")

    def test_head_and_book_of_all(self):
        for text in TEXTS:
            mark = mark_of(text)
            self.assertEqual(mark.head().parts(), mark.parts()[:3] + ((), None, None))
            self.assertEqual(mark.book().parts(), mark.parts()[:5] + (None,))

    def test_with_year(self):
        for text in TEXTS:
            mark = mark_of(text)
            parts = mark.parts()
            for year in (1000, 1998, 2999, None):
                self.assertEqual(mark.with_year(year).parts(), parts[:4] + (year, parts[5]))
                self.assertEqual(mark.with_year(year=year).parts(), parts[:4] + (year, parts[5]))
            self.assertEqual(mark.with_year().parts(), parts[:4] + (None, parts[5]))
            self.assertEqual(str(mark), text)

    def test_with_copy(self):
        for text in TEXTS:
            mark = mark_of(text)
            parts = mark.parts()
            for copy in (2, 3, 10 ** 29, None):
                self.assertEqual(mark.with_copy(copy).parts(), parts[:5] + (copy,))
                self.assertEqual(mark.with_copy(copy=copy).parts(), parts[:5] + (copy,))
            self.assertEqual(mark.with_copy().parts(), parts[:5] + (None,))
            self.assertEqual(str(mark), text)

    def test_texts_of_other_marks(self):
        mark = mark_of("qa76.9 k52 1998 c.2")
        self.assertEqual(str(mark.with_year(2001)), "qa76.9 k52 2001 c.2")
        self.assertEqual(str(mark.with_copy(12)), "qa76.9 k52 1998 c.12")
        self.assertEqual(str(mark.book()), "qa76.9 k52 1998")
        self.assertEqual(str(mark.head()), "qa76.9")

    def test_refusals(self):
        mark = mark_of("qa76.9 k52 1998 c.2")
        for thing in NO_YEARS:
            self.refuses(NoYear, thing, mark.with_year, thing)
        for thing in NO_COPIES:
            self.refuses(NoCopy, thing, mark.with_copy, thing)
        self.assertEqual(str(mark), "qa76.9 k52 1998 c.2")

    def test_same_book(self):
        for one in TEXTS:
            for other in TEXTS:
                alike = parts_of(one)[:5] == parts_of(other)[:5]
                self.assertIs(mark_of(one).same_book(mark_of(other)), alike)
        mark = mark_of("qa76.9 k52 1998 c.2")
        self.assertIs(mark.same_book(mark_of("qa76.9 k52 1998 c.3")), True)
        self.assertIs(mark.same_book(mark_of("qa76.9 k52 1998")), True)
        self.assertIs(mark.same_book(mark), True)
        for text in ("qb76.9 k52 1998 c.2", "qa75.9 k52 1998 c.2", "qa76 k52 1998 c.2", "qa76.9 k53 1998 c.2",
                     "qa76.9 1998 c.2", "qa76.9 k52 1999 c.2", "qa76.9 k52 c.2"):
            self.assertIs(mark.same_book(mark_of(text)), False)


if __name__ == "__main__":
    unittest.main()
