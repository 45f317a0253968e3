"""How many marks lie in a stretch, marks spread over it, and neighbours: points [53] to [55]."""

import itertools
import unittest

from spinemarks.counts import how_many
from spinemarks.errors import NoBound, NoNumber, NoRoom
from spinemarks.marks import Mark
from spinemarks.numbering import mark_at, number_of
from spinemarks.spread import last_before, many_between, next_of, spread
from tests.helper import (
    TEXTS, Case, Shelf, behind_heads, compared, figure_texts, mark_of, mark_or_none, texts_of, texts_of_at_most_three,
    texts_told,
)
from tests.test_between import NEAR, TRUTHS, in_stretch
from tests.test_counts import NO_BOUNDS

NO_SPREADS = (None, True, False, 0, -1, 21, 10 ** 29, "", "5", [], [5], (5,), {}, {5: 5}, Mark("a", 1))
LOW, HIGH = mark_of("q1"), mark_of("q2")


def picked(texts, many):
    """So many texts of a list in order, by the words of the point."""
    return [texts[number * len(texts) // many] for number in range(many)]


def spread_by_hand(there, many):
    """The marks that are told, where there are enough of so few signs that all of these are there; else None."""
    for bound in sorted({len(text) for text in there}):
        few = [text for text in there if len(text) <= bound]
        if len(few) >= many:
            return picked(few, many)
    return None


class ManyBetween(Case):
    def test_all_marks_of_small_bounds(self):
        for bound in range(4):
            shelf = Shelf([text for text in texts_of_at_most_three() if len(text) <= bound])
            for low, high in itertools.product(NEAR[::2] + TEXTS[8:20], repeat=2):
                for truths in TRUTHS:
                    told = many_between(bound, mark_or_none(low), mark_or_none(high), *truths)
                    self.assertEqual(told, len(shelf.stretch(low, high, *truths)), (bound, low, high, truths))

    def test_all_marks_of_one_letter_and_number(self):
        texts = texts_of("q1", 6)
        near = [text for text in NEAR if text is not None and text.startswith("q1")]
        for bound in range(7):
            shelf = Shelf([text for text in texts if len(text) <= bound])
            for low, high in itertools.product(near, repeat=2):
                for truths in TRUTHS:
                    told = many_between(bound, mark_of(low), mark_of(high), *truths)
                    self.assertEqual(told, len(shelf.stretch(low, high, *truths)), (bound, low, high, truths))

    def test_bounds(self):
        for bound in (0, 1, 2, 3, 24, 60):
            self.assertEqual(many_between(bound), how_many(bound))
            self.assertIs(type(many_between(bound)), int)
        self.assertEqual([many_between(bound, LOW, HIGH) for bound in (0, 1, 2, 3)], [0, 0, 0, 0])
        self.assertEqual([many_between(bound, LOW, HIGH, True, True) for bound in (0, 1, 2, 3)], [0, 0, 2, 2])
        self.assertEqual(many_between(4, LOW, HIGH), 9)
        self.assertEqual(many_between(60, mark_of("q1 c.5"), mark_of("q1 c.1" + "0" * 55)), 10 ** 55 - 6)

    def test_left_out_and_by_their_names(self):
        self.assertEqual(many_between(2, LOW), 234 - 145)
        self.assertEqual(many_between(2, high=LOW), 144)
        self.assertEqual(many_between(2, high=LOW, with_high=True), 145)
        self.assertEqual(many_between(2, LOW, with_low=True), 90)
        self.assertEqual(many_between(many=2, high=HIGH, low=LOW, with_high=True, with_low=False), 1)
        # The truth of a side without a mark doesn't count.
        self.assertEqual(many_between(2, None, None, True, True), 234)

    def test_parts_of_a_stretch(self):
        middle = mark_of("q1 k5 1998")
        for bound in range(61):
            both = many_between(bound, LOW, middle, True) + many_between(bound, middle, HIGH, True, True)
            self.assertEqual(many_between(bound, LOW, HIGH, True, True), both)

    def test_no_bounds(self):
        for thing in NO_BOUNDS:
            self.refuses(NoBound, thing, many_between, thing)
            self.refuses(NoBound, thing, many_between, thing, HIGH, LOW)


class LongBeginnings(Case):
    """Marks between two that begin alike are as many, and come so, whatever the beginning is."""

    def check(self, low, high, old, new):
        """That what is told of two marks is told of them with a new beginning of their texts, too."""
        long_low, long_high = mark_of(new + low[len(old):]), mark_of(new + high[len(old):])
        for truths in TRUTHS:
            for bound in (0, 3, 8, 12, 20):
                told = many_between(bound, mark_of(low), mark_of(high), *truths)
                more = bound + len(new) - len(old)
                self.assertEqual(many_between(more, long_low, long_high, *truths), told, (low, high, new, bound))
            for many in (1, 3, 20):
                try:
                    expected = texts_told(spread(many, mark_of(low), mark_of(high), *truths))
                except NoRoom:
                    self.refuses_room(many, long_low, long_high, truths)
                    continue
                expected = [new + text[len(old):] for text in expected]
                self.assertEqual(texts_told(spread(many, long_low, long_high, *truths)), expected, (low, high, new, many))

    def refuses_room(self, many, low, high, truths):
        with self.assertRaises(NoRoom) as caught:
            spread(many, low, high, *truths)
        self.assertIs(caught.exception.found[0], low)
        self.assertIs(caught.exception.found[1], high)

    def test_heads(self):
        texts = ("q1", "q1 c.2", "q1 c.9", "q1 c.30", "q1 1000", "q1 1998 c.5", "q1 2999", "q1 b5", "q1 b5 c.2", "q1 b55", "q1 z9 z9")
        for low, high in itertools.product(texts, repeat=2):
            self.check(low, high, "q1", "zzz9999.00000000000001")

    def test_points(self):
        texts = ("q1.5", "q1.5 k5", "q1.501", "q1.55", "q1.55 1998", "q1.59 c.7", "q1.50001")
        for low, high in itertools.product(texts, repeat=2):
            self.check(low, high, "q1.", "qaz12.99990")
            self.check("q1.9 z9", high.replace("q1.5", "q1.97"), "q1.", "q1.00001")

    def test_makers(self):
        texts = ("q1 k5", "q1 k5 c.3", "q1 k5 1998", "q1 k55", "q1 k509", "q1 k5 b7", "q1 k5 b7 2999", "q1 k5 b77 x1", "q1 k5 c1 c1")
        for low, high in itertools.product(texts, repeat=2):
            self.check(low, high, "q1 k", "qa76.99 w00001")
            self.check(low, high, "q1", "b55")
        for low, high in itertools.product(("q1 k5", "q1 k5 b5", "q1 k5 b51 1998", "q1 k5 b59 c.2", "q1 k5 b5 b5"), repeat=2):
            self.check(low, high, "q1 k5", "qa76.99 w000012345")

    def test_years(self):
        texts = ("q1 k5 1998", "q1 k5 1998 c.2", "q1 k5 1998 c.25", "q1 k5 1998 c.105")
        for low, high in itertools.product(texts, repeat=2):
            self.check(low, high, "q1 k5 1998", "qa76.99 w000012345 z9 2000")
            self.check(low, high.replace("1998", "1999"), "q1 k5", "qa76.99 w000012345 z9 z0101")


class Spread(Case):
    def test_against_all_marks_of_few_signs(self):
        near = (None, "a1", "a1 c.2", "q1", "q1 c.2", "b7", "q2", "q9", "q76", "qa1", "r1", "zz9")
        self.assert_spread(Shelf(texts_of_at_most_three()), near)

    def test_against_all_marks_of_one_letter_and_number(self):
        near = [text for text in NEAR if text is not None and text.startswith("q1")]
        self.assert_spread(Shelf(texts_of("q1", 6)), near[::2])

    def assert_spread(self, shelf, near):
        checked = 0
        for low, high in itertools.product(near, repeat=2):
            for truths in TRUTHS:
                there = shelf.stretch(low, high, *truths)
                for many in (1, 2, 3, 7, 19, 20):
                    expected = spread_by_hand(there, many)
                    if expected is not None:
                        told = spread(many, mark_or_none(low), mark_or_none(high), *truths)
                        self.assertEqual(texts_told(told), expected, (many, low, high, truths))
                        checked += 1
        self.assertGreater(checked, 300)

    def test_rows_written_out(self):
        for many, low, high, truths, texts in (
            (1, None, None, (), ["a1"]), (2, None, None, (), ["a1", "n1"]),
            (5, None, None, (), ["a1", "f2", "k4", "p6", "u8"]),
            (9, "q1", "q2", (), ["q1." + figure for figure in "123456789"]),
            (2, "q1", "q2", (), ["q1.1", "q1.5"]), (2, "q1", "q2", (True, True), ["q1", "q2"]),
            (3, "q1", "q2", (True, False), ["q1", "q1.3", "q1.6"]),
            (3, "q1", "q2", (False, True), ["q1.1", "q1.4", "q1.7"]),
            (3, "q1", "q1 c.5", (), ["q1 c.2", "q1 c.3", "q1 c.4"]), (1, "q1 c.2", "q1 c.4", (), ["q1 c.3"]),
            (2, "q1 c.2", "q1 c.5", (), ["q1 c.3", "q1 c.4"]), (2, "q1", "q1 c.2", (True, True), ["q1", "q1 c.2"]),
            (3, None, "a1 c.3", (False, True), ["a1", "a1 c.2", "a1 c.3"]), (1, "q1", "q1", (True, True), ["q1"]),
            (1, None, "a1", (False, True), ["a1"]), (2, "zzz9999.9", None, (), ["zzz9999.91", "zzz9999.95"]),
        ):
            told = spread(many, mark_or_none(low), mark_or_none(high), *truths)
            self.assertEqual(texts_told(told), texts)

    def test_one_to_twenty(self):
        for many in range(1, 21):
            told = texts_told(spread(many, LOW, HIGH))
            self.assertEqual(len(told), many)
            self.assertTrue(all(compared(one, other) < 0 for one, other in itertools.pairwise(told)))
            bound = next(bound for bound in range(61) if many_between(bound, LOW, HIGH) >= many)
            start = number_of(LOW, bound) + 1
            there = many_between(bound, LOW, HIGH)
            marks = [mark_at(start + number * there // many, bound) for number in range(many)]
            self.assertEqual(told, texts_told(marks))

    def test_copies_of_many_figures(self):
        low, high = mark_of("q1 c." + "9" * 100), LOW.with_copy(10 ** 100 + 30)
        for many in range(1, 21):
            told = spread(many, low, high)
            expected = [10 ** 100 + number * 30 // many for number in range(many)]
            self.assertEqual([mark.copy_number() for mark in told], expected)
        low = low.with_copy(10 ** 100 - 5)
        # Enough of them have as many figures as low, but for more than four all are taken.
        self.assertEqual([mark.copy_number() - 10 ** 100 for mark in spread(4, low, high)], [-4, -3, -2, -1])
        self.assertEqual([mark.copy_number() - 10 ** 100 for mark in spread(5, low, high)], [-4, 2, 9, 16, 23])

    def test_marks_of_two_hundred_and_forty_signs(self):
        points = "q1." + "3" * 237
        texts = behind_heads([points] + [points + "0" + figures for figures in figure_texts(3)], 243)
        there = Shelf(texts).stretch(points, points + "1")
        for many in (1, 5, 9, 10, 20):
            expected = spread_by_hand(there, many)
            self.assertEqual(texts_told(spread(many, mark_of(points), mark_of(points + "1"))), expected)

    def test_too_few(self):
        for low, high, truths, there in (
            (None, "a1", (), 0), (None, "a1", (True, True), 1), (None, "a1 c.5", (), 4), ("q1", "q1", (True, True), 1),
            ("q1", "q1", (True, False), 0), ("q1", "q1", (), 0), ("q2", "q1", (True, True), 0), ("q1", "q1 c.2", (), 0),
            ("q1", "q1 c.2", (True, False), 1), ("q1", "q1 c.2", (True, True), 2), ("q1 c.5", "q1 c.24", (), 18),
            ("q1 c.5", "q1 c.24", (True, False), 19), ("q1 c.5", "q1 c.24", (True, True), 20),
            ("q1", "q1 c.22", (), 20), ("q1", "q1 c.21", (), 19), ("q1", "q1 c.21", (True, True), 21),
            ("q1 c.9", "q1 c.30", (), 20), (None, "a1 c.20", (False, True), 20), (None, "a1 c.20", (), 19),
        ):
            one, other = mark_or_none(low), mark_or_none(high)
            for many in range(1, 21):
                if many <= there:
                    told = texts_told(spread(many, one, other, *truths))
                    self.assertEqual(len(set(told)), many)
                    self.assertTrue(all(in_stretch(text, low, high, *(truths or (False, False))) for text in told))
                else:
                    self.refuses_room(many, one, other, *truths)

    def refuses_room(self, many, low, high, *truths):
        with self.assertRaises(NoRoom) as caught:
            spread(many, low, high, *truths)
        self.assertIs(type(caught.exception.found), tuple)
        self.assertIs(caught.exception.found[0], low)
        self.assertIs(caught.exception.found[1], high)

    def test_no_numbers_ahead_of_no_room(self):
        for thing in NO_SPREADS:
            self.refuses(NoNumber, thing, spread, thing)
            self.refuses(NoNumber, thing, spread, thing, HIGH, LOW)

    def test_by_their_names_and_new_lists(self):
        told = spread(many=2, high=HIGH, low=LOW, with_low=True, with_high=True)
        self.assertEqual(told, [LOW, HIGH])
        told.clear()
        self.assertEqual(spread(2, LOW, HIGH, True, True), [LOW, HIGH])
        self.assertEqual(spread(1, with_high=True, high=mark_of("a1")), [mark_of("a1")])


class Neighbours(Case):
    def test_all_marks_of_small_bounds(self):
        for bound in range(4):
            shelf = Shelf([text for text in texts_of_at_most_three() if len(text) <= bound])
            for text in list(TEXTS) + shelf.texts[::7] + shelf.texts[:3] + shelf.texts[-3:]:
                behind = shelf.stretch(text, None)
                ahead = shelf.stretch(None, text)
                self.assert_told(next_of(mark_of(text), bound), behind[0] if behind else None)
                self.assert_told(last_before(mark_of(text), bound), ahead[-1] if ahead else None)

    def assert_told(self, told, text):
        self.assertEqual(told, mark_or_none(text))
        self.assertIsInstance(told, Mark if text else type(None))

    def test_rows_written_out(self):
        for text, bound, ahead, behind in (
            ("a1", 2, None, "a2"), ("a1", 60, None, "a1 c.2"), ("z9", 2, "z8", None), ("q1", 2, "p9", "q2"),
            ("q1", 0, None, None), ("q1", 1, None, None), ("q1 k5", 2, "q1", "q2"),
            ("q1.5 k5 w6 1998 c.2", 4, "q1.5", "q1.6"),
            ("zzz9999.9", 7, "zzz9999", None), ("zzz9999", 7, "zzz9998", None), ("a9999", 5, "a9998", "aa1"),
            ("q1 c.2", 6, "q1", "q1 c.3"), ("q1 c.9", 6, "q1 c.8", "q1 a01"), ("q1 c.10", 6, "q1 c.9", "q1 a01"),
            ("q1 c." + "9" * 30, 6, "q1 c.9", "q1 a01"), ("a1 c.7", 2, "a1", "a2"),
        ):
            self.assert_told(last_before(mark_of(text), bound), ahead)
            self.assert_told(next_of(mark_of(text), bound), behind)

    def test_no_mark_lies_between(self):
        for text in TEXTS:
            mark = mark_of(text)
            for bound in (len(text) - 1, len(text), len(text) + 3, 60):
                behind, ahead = next_of(mark, bound), last_before(mark, bound)
                for low, high in ((mark, behind), (ahead, mark)):
                    self.assertEqual(many_between(bound, low, high), 0)
                for told in (behind, ahead):
                    self.assertTrue(told is None or len(told) <= bound)
                self.assertTrue(behind is None or compared(text, str(behind)) < 0)
                self.assertTrue(ahead is None or compared(str(ahead), text) < 0)

    def test_there_and_back(self):
        for number in (0, 1, 10 ** 6, 10 ** 20, 10 ** 40, how_many(60) - 2):
            mark = mark_at(number, 60)
            self.assertEqual(next_of(mark, 60), mark_at(number + 1, 60))
            self.assertEqual(last_before(next_of(mark, 60), 60), mark)

    def test_no_bounds(self):
        for thing in NO_BOUNDS:
            self.refuses(NoBound, thing, next_of, LOW, thing)
            self.refuses(NoBound, thing, last_before, LOW, thing)


if __name__ == "__main__":
    unittest.main()
