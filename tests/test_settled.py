"""How many first signs settle the order of two marks: points [33] to [35]."""

import functools
import itertools
import unittest

from spinemarks.errors import Alike, NoNumber
from spinemarks.marks import Mark
from spinemarks.settled import settles, turned
from tests.helper import Case, compared, is_mark, mark_of, parts_of, put_in_order

WORDS = ("letters", "number", "points", "makers", "year", "copy")
# Marks near each other, so that their order hangs on each of their parts.
NEAR = (
    "q1", "q7", "q9", "q12", "q70", "q76", "q90", "q123", "q129", "q760", "q1234", "q1294", "q5678", "q9999",
    "c1", "qa1", "qc1", "qcc1", "q7.5", "q7.05", "q7.5 k5", "q7 c.2", "q7 c.3", "q7 c.9", "q7 c.10", "q7 c.12",
    "q7 c.19", "q7 c.76", "q7 c.123", "q7 c.1000", "q7 a1", "q7 b5", "q7 c1", "q7 c5", "q7 c52", "q7 d5",
    "q7 k5", "q7 k52", "q7 k05", "q7 1000", "q7 1998", "q7 1999", "q7 2999", "q7 1998 c.2", "q7 1998 c.12",
    "q7 k5 c.2", "q7 k5 c5", "q7 k5 b5", "q7 k5 d5", "q7 k5 1998", "q7 k5 1998 c.2", "q7 k5 w6 c.2",
    "q7 k5 w6 c1", "q7 k5 w6 a1", "q7 k5 w6 1998", "q7 k5 w6 y7", "q7 k5 w6 y7 c.2", "q7 k5 w6 y7 1998",
    "q7 k5 w6 y7 2000 c.3", "q7 c5 c5 c5", "q7 c5 c5 c5 c.5", "q7 c5 c5 c.5", "q7 c5 c5 1000",
)
# Two marks, their order, with how many first signs it is settled, and the part that tells it.
ROWS = (
    ("q1", "r1", -1, 1, "letters"), ("qa1", "q1", 1, 2, "letters"), ("qa9", "qac9", -1, 3, "letters"),
    ("c1", "a1", 1, 1, "letters"), ("q9", "q76", -1, 3, "number"), ("q76", "q90", -1, 4, "number"),
    ("q9", "q90", -1, 3, "number"), ("q76 k5", "q90.5", -1, 4, "number"), ("q123", "q5678", -1, 5, "number"),
    ("q1234", "q5678", -1, 5, "number"), ("q999", "q1000", -1, 5, "number"), ("q1234", "q1235", -1, 5, "number"),
    ("qaz1234", "qaz2234", -1, 7, "number"), ("q7654", "q56", 1, 4, "number"), ("q7 c.9", "q9 c.7", -1, 3, "number"),
    ("q1", "q1.5", -1, 3, "points"), ("q1.5 k5", "q1 k5", 1, 3, "points"), ("q1.49", "q1.5", -1, 4, "points"),
    ("q1.5", "q1.52", -1, 5, "points"), ("q1", "q1 k5", -1, 3, "makers"), ("q1 k5", "q1 k52", -1, 6, "makers"),
    ("q1 k5", "q1 w5", -1, 4, "makers"), ("q1 k49", "q1 k5", -1, 5, "makers"), ("q1 k5", "q1 1998", 1, 4, "makers"),
    ("q1 c.2", "q1 c2", -1, 5, "makers"), ("q1 c.2", "q1 b5", -1, 5, "makers"), ("q1 c.2", "q1 d5", -1, 4, "makers"),
    ("q1 c5", "q1 b5", 1, 5, "makers"), ("q1 c5", "q1 d5", -1, 4, "makers"), ("q1 c5", "q1 1998", 1, 5, "makers"),
    ("q1 k5 w6 c5", "q1 k5 w6 1998", 1, 11, "makers"), ("q1", "q1 1998", -1, 3, "year"),
    ("q1 c.2", "q1 1998", -1, 5, "year"), ("q1 1998", "q1 1999", -1, 7, "year"), ("q1 1998", "q1 2998", -1, 4, "year"),
    ("q1 k5 w6 y7 c.2", "q1 k5 w6 y7 1998", -1, 13, "year"), ("q1 k5 w6 c.2", "q1 k5 w6 1998", -1, 11, "year"),
    ("q1", "q1 c.2", -1, 3, "copy"), ("q1 1998", "q1 1998 c.2", -1, 8, "copy"), ("q1 c.2", "q1 c.3", -1, 7, "copy"),
    ("q1 c.9", "q1 c.10", -1, 7, "copy"), ("q1 c.19", "q1 c.2", 1, 7, "copy"), ("q1 c.15", "q1 c.25", -1, 8, "copy"),
    ("q1 c.9", "q1 c.90", -1, 7, "copy"), ("q1 c.12345", "q1 c.22345", -1, 11, "copy"),
)


def tails():
    """Some signs behind which a text may be a mark: all up to three of these."""
    signs = " .0129abcdz"
    return ["".join(row) for many in range(4) for row in itertools.product(signs, repeat=many)]


TAILS = tails()


@functools.cache
def least_and_last(text, many):
    """Of marks that so many first signs of the text allow the first one and the last one."""
    if len(text) < many:
        return (text, text)
    allowed = [text[:many] + tail for tail in TAILS if is_mark(text[:many] + tail)]
    allowed = put_in_order(allowed + [text])
    return (allowed[0], allowed[-1])


def is_open(one, other, many):
    """Whether so many first signs leave the order of two texts open, of which the first is ahead."""
    return compared(least_and_last(one, many)[1], least_and_last(other, many)[0]) >= 0


def settled_by(one, other):
    """How many first signs settle the order, by trying one more at a time."""
    if compared(one, other) > 0:
        one, other = other, one
    return next(many for many in itertools.count() if not is_open(one, other, many))


def first_unlike(one, other):
    parts = zip(WORDS, parts_of(one), parts_of(other))
    return next(word for word, first, second in parts if first != second)


def allows(text, many, mark):
    return str(mark) == text if len(text) < many else str(mark)[:many] == text[:many]


class Settles(Case):
    def test_rows_written_out(self):
        for one, other, way, many, word in ROWS:
            self.assertEqual(settles(mark_of(one), mark_of(other)), (way, many, word), (one, other))
            self.assertEqual(settles(mark_of(other), mark_of(one)), (-way, many, word), (one, other))

    def test_all_pairs_of_marks_near_each_other(self):
        for one, other in itertools.permutations(NEAR, 2):
            told = settles(mark_of(one), mark_of(other))
            expected = (compared(one, other), settled_by(one, other), first_unlike(one, other))
            self.assertEqual(told, expected, (one, other))
            self.assertIs(type(told), tuple)

    def test_at_most_one_more_than_the_longer_one_has(self):
        for one, other in itertools.permutations(NEAR, 2):
            self.assertLessEqual(settles(mark_of(one), mark_of(other))[1], max(len(one), len(other)) + 1)

    def test_long_marks(self):
        points = "q1." + "3" * 40
        self.assertEqual(settles(mark_of(points), mark_of(points[:-1] + "4")), (-1, 43, "points"))
        copies = Mark("q", 1, "", None, None, 10 ** 29), Mark("q", 1, "", None, None, 2 * 10 ** 28)
        self.assertEqual(settles(*copies), (1, 35, "copy"))

    def test_equal_marks(self):
        mark = mark_of("q7 k5")
        self.refuses(Alike, mark, settles, mark, mark_of("q7 k5"))
        self.refuses(Alike, mark, settles, mark, mark)


class Turned(Case):
    def assert_turned(self, one, other, many):
        told = turned(mark_of(one), mark_of(other), many)
        self.assertIs(type(told), tuple)
        first, second = told
        self.assertIsInstance(first, Mark)
        self.assertIsInstance(second, Mark)
        self.assertTrue(allows(one, many, first), (one, other, many, told))
        self.assertTrue(allows(other, many, second), (one, other, many, told))
        self.assertEqual(compared(str(first), str(second)), -compared(one, other), (one, other, many, told))

    def test_all_pairs_of_marks_near_each_other(self):
        for one, other in itertools.permutations(NEAR, 2):
            many = settled_by(one, other)
            self.assert_turned(one, other, many - 1)
            self.assertIsNone(turned(mark_of(one), mark_of(other), many), (one, other))

    def test_all_numbers_of_signs(self):
        for one, other, _, many, _ in ROWS:
            for first, second in ((one, other), (other, one)):
                for fewer in range(many):
                    self.assert_turned(first, second, fewer)
                for more in (many, many + 1, max(len(one), len(other)) + 1, many + 100, 10 ** 29):
                    self.assertIsNone(turned(mark_of(first), mark_of(second), more))

    def test_no_sign_settles_nothing(self):
        for one, other in itertools.permutations(NEAR[:10], 2):
            self.assert_turned(one, other, 0)

    def test_long_marks(self):
        one, other = "q1 k" + "0" * 39 + "1 c." + "1" * 30, "q1 k" + "0" * 39 + "1 c." + "2" * 30
        for many in (0, 1, 30, 44, 47, 48, 60, 76, 77):
            self.assert_turned(one, other, many)
            self.assert_turned(other, one, many)
        self.assertIsNone(turned(mark_of(one), mark_of(other), 78))

    def test_refusals(self):
        one, other = mark_of("q7"), mark_of("q9")
        for thing in (None, True, False, -1, -10 ** 29, "", "1", [], [1], (1,), {}, one):
            self.refuses(NoNumber, thing, turned, one, other, thing)
            self.refuses(NoNumber, thing, turned, one, one, thing)
        for many in (0, 1, 2, 3, 100):
            self.refuses(Alike, one, turned, one, mark_of("q7"), many)


if __name__ == "__main__":
    unittest.main()
