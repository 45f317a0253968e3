"""The numbers of marks among all of at most so many signs: points [42] to [44]."""

import random
import unittest

from spinemarks.counts import how_many, with_signs
from spinemarks.errors import NoBound, NoNumber, TooLong
from spinemarks.marks import Mark
from spinemarks.numbering import ahead_of, mark_at, number_of
from tests.helper import TEXTS, Case, compared, mark_of, put_in_order, texts_behind, texts_of_at_most_three
from tests.test_counts import NO_BOUNDS, by_hand

NO_NUMBERS = (None, True, False, -1, -10 ** 29, "", "5", [], [5], (5,), {}, {5: 5}, Mark("a", 1))
LONG = (
    "qa76.9 k52 w61 1998 c.2", "abc1234.05 c1 b02 a3 2999 c.1000", "zzz9999 z9 z9 z9 2999 c.999999",
    "q1.0001 k0001 c.20", "q1 1000", "q1 2999", "q1 c.2", "q1 c.9", "q1 c.10", "q1 a1 a1 a1", "q1 a1 a1 a1 1000 c.2",
)


def ahead_by_hand(texts, text, bound):
    return len([other for other in texts if len(other) <= bound and compared(other, text) < 0])


class AheadOf(Case):
    def test_all_marks_of_small_bounds(self):
        texts = texts_of_at_most_three()
        for bound in (0, 1, 2, 3):
            ahead = 0
            for text in texts:
                self.assertEqual(ahead_of(mark_of(text), bound), ahead, (text, bound))
                ahead += len(text) <= bound

    def test_marks_with_more_signs_than_the_bound(self):
        texts = texts_of_at_most_three()
        for text in TEXTS:
            for bound in (0, 1, 2, 3):
                self.assertEqual(ahead_of(mark_of(text), bound), ahead_by_hand(texts, text, bound), (text, bound))

    def test_all_marks_with_one_head(self):
        # Those of the number 1 stand behind one another; other numbers begin with a 1, too.
        texts = [text for text in texts_behind("q1", 6) if mark_of(text).number() == 1]
        self.assert_behind_one_another(texts, 6)
        self.assertEqual(ahead_of(mark_of("q2"), 6), ahead_of(mark_of("q1"), 6) + len(texts))

    def test_all_makers_years_and_copies_behind_a_mark(self):
        for text, most in (("q1 k5", 10), ("q1 k5 w6 y7", 16), ("q1 k5 1998", 16), ("q1.5 c1 b1", 13)):
            self.assert_behind_one_another([text] + texts_behind(text + " ", most), most)

    def assert_behind_one_another(self, texts, bound):
        """All of these texts of at most so many signs stand so that no other one is between."""
        marks = [mark_of(text) for text in put_in_order(texts)]
        first = ahead_of(marks[0], bound)
        self.assertEqual([ahead_of(mark, bound) for mark in marks], list(range(first, first + len(marks))))
        self.assertEqual([number_of(mark, bound) for mark in marks], list(range(first, first + len(marks))))
        for at in range(0, len(marks), 10):
            self.assertEqual(mark_at(first + at, bound).parts(), marks[at].parts())

    def test_long_marks_and_all_bounds(self):
        for text in LONG:
            mark = mark_of(text)
            told = [ahead_of(mark, bound) for bound in range(61)]
            self.assertEqual(told, sorted(told))
            for bound in range(len(text), 61):
                self.assertEqual(told[bound], number_of(mark, bound))

    def test_behind_a_mark_that_is_too_long(self):
        # Each of these stands straight behind the shorter one, where longer ones don't count.
        for one, other, bound in (
            ("q1.5", "q1.50000000001", 5), ("q1 k5", "q1 k5000000001", 6), ("q1 c.99", "q1 c.100", 7),
            ("q1 1998 c.99", "q1 1998 c.12345", 12), ("q1.5 k5 1998 c.9", "q1.5 k5 1998 c.1000", 16),
            ("q1 c.99", "q1 c." + "9" * 200, 7), ("q1", "q1." + "0" * 230 + "1", 2), ("q1", "q1 k5 w6 y7 1998 c.2", 2),
        ):
            self.assertEqual(ahead_of(mark_of(other), bound), ahead_of(mark_of(one), bound) + 1, (one, other))

    def test_the_first_and_the_last(self):
        for bound in range(2, 61):
            self.assertEqual(ahead_of(mark_of("a1"), bound), 0)
            self.assertEqual(ahead_of(mark_of("zzz9999." + "9" * 60), bound), how_many(bound))

    def test_no_bounds(self):
        for thing in NO_BOUNDS:
            self.refuses(NoBound, thing, ahead_of, mark_of("q1"), thing)


class NumbersAndMarks(Case):
    def test_small_bounds_there_and_back(self):
        for bound in (2, 3):
            texts = [text for text in texts_of_at_most_three() if len(text) <= bound]
            for number, text in enumerate(texts):
                self.assertEqual(number_of(mark_of(text), bound), number)
                self.assertEqual(mark_at(number, bound).parts(), mark_of(text).parts())

    def test_great_bounds_there_and_back(self):
        chance = random.Random(7)
        for bound in range(4, 61):
            total = how_many(bound)
            numbers = [0, 1, 2, total - 3, total - 2, total - 1] + [chance.randrange(total) for _ in range(30)]
            numbers += [chance.randrange(how_many(fewer)) for fewer in range(2, bound)]
            ahead = None
            for number in sorted(set(numbers)):
                mark = mark_at(number, bound)
                self.assertLessEqual(len(mark), bound)
                self.assertEqual(number_of(mark, bound), number)
                self.assertTrue(ahead is None or compared(str(ahead), str(mark)) < 0)
                ahead = mark

    def test_marks_there_and_back(self):
        for text in TEXTS + LONG:
            for bound in {len(text), len(text) + 1, len(text) + 5, 60}:
                number = number_of(mark_of(text), bound)
                self.assertIs(type(number), int)
                self.assertEqual(mark_at(number, bound).parts(), mark_of(text).parts())

    def test_neighbours_by_their_numbers(self):
        # Between marks of numbers that follow each other there is none of so few signs.
        for text in TEXTS + LONG:
            number = number_of(mark_of(text), 60)
            if number > 0:
                self.assertTrue(mark_at(number - 1, 60).ahead(mark_of(text)))
            if number < how_many(60) - 1:
                self.assertTrue(mark_of(text).ahead(mark_at(number + 1, 60)))

    def test_numbers_rise_as_the_marks_do(self):
        texts = put_in_order([text for text in set(TEXTS + LONG)])
        for bound in (32, 45, 60):
            numbers = [number_of(mark_of(text), bound) for text in texts]
            self.assertEqual(numbers, sorted(set(numbers)))

    def test_the_first_and_the_last(self):
        for bound in range(2, 61):
            self.assertEqual(str(mark_at(0, bound)), "a1")
        lasts = {2: "z9", 3: "zz9", 4: "zzz9", 5: "zzz99", 6: "zzz999", 7: "zzz9999", 8: "zzz9999", 9: "zzz9999.9"}
        lasts[60] = "zzz9999." + "9" * 52
        for bound, text in lasts.items():
            self.assertEqual(str(mark_at(how_many(bound) - 1, bound)), text)

    def test_too_long(self):
        for text in TEXTS + LONG:
            mark = mark_of(text)
            for bound in {0, 1, len(text) - 2, len(text) - 1}:
                self.refuses(TooLong, mark, number_of, mark, bound)
        self.assertEqual(number_of(mark_of("a1"), 2), 0)

    def test_no_bounds_ahead_of_too_long(self):
        long = mark_of("q1." + "5" * 100)
        for thing in NO_BOUNDS:
            self.refuses(NoBound, thing, number_of, mark_of("q1"), thing)
            self.refuses(NoBound, thing, number_of, long, thing)

    def test_refusals_of_mark_at(self):
        for thing in NO_NUMBERS:
            self.refuses(NoNumber, thing, mark_at, thing, 5)
            self.refuses(NoNumber, thing, mark_at, thing, 61)
            self.refuses(NoNumber, thing, mark_at, thing, None)
        for thing in NO_BOUNDS:
            self.refuses(NoBound, thing, mark_at, 0, thing)
            self.refuses(NoBound, thing, mark_at, 10 ** 5000, thing)
        for bound in range(61):
            for number in (how_many(bound), how_many(bound) + 1, 10 ** 70, 10 ** 5000):
                self.refuses(NoNumber, number, mark_at, number, bound)

    def test_as_many_marks_as_are_counted(self):
        self.assertEqual([with_signs(many) for many in range(61)], by_hand())


if __name__ == "__main__":
    unittest.main()
