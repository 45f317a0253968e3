"""Whether there is room between two marks, and the shortest mark between them: points [51] and [52]."""

import itertools
import unittest

from spinemarks.between import room, shortest
from spinemarks.errors import NoRoom
from spinemarks.marks import Mark
from tests.helper import (
    TEXTS, Case, Shelf, compared, is_mark, mark_of, mark_or_none, parts_of, texts_of, texts_of_at_most_three,
)

TRUTHS = tuple(itertools.product((False, True), repeat=2))
# Marks of one head and near it, that leave room for short marks, for long ones, and none.
NEAR = (
    None, "a1", "q1", "q1 c.2", "q1 c.3", "q1 c.5", "q1 c.9", "q1 c.10", "q1 c.12", "q1 1998", "q1 1998 c.2",
    "q1 1998 c.3", "q1 1999", "q1 2999", "q1 a1", "q1 k5", "q1 k5 c.2", "q1 k5 c5", "q1 k5 w6 y7", "q1 k5 w6 y7 2999",
    "q1 k5 w6 y8", "q1 k51", "q1 k6", "q1 z9", "q1 z99", "q1.0001", "q1.001", "q1.01", "q1.1", "q1.11", "q1.12",
    "q1.9", "q1.99", "q2", "q2 c.2", "q9999", "qa1", "zzz9999", "zzz9999.9 z9 z9 z9 2999 c.9",
)
# Low, high, both truths, and the shortest mark.
ROWS = (
    (None, None, False, False, "a1"), (None, None, True, True, "a1"), ("a1", None, False, False, "a2"),
    (None, "a1", False, True, "a1"), (None, "a1 c.2", False, False, "a1"), (None, "a2", False, False, "a1"),
    ("a1", "a1", True, True, "a1"), ("q1", "q2", False, False, "q1.1"), ("q1", "q2", True, False, "q1"),
    ("q1", "q2", False, True, "q2"), ("q1", "q2", True, True, "q1"), ("q1", "q3", False, False, "q2"),
    ("q76", "r5", False, False, "r1"), ("q76", "q90", False, False, "q77"), ("q76", "q77", False, False, "q76.1"),
    ("q9", "q76", False, False, "q10"), ("q9", "q10", False, False, "q9.1"), ("q1.1", "q1.2", False, False, "q1.11"),
    ("q1.1", "q1.11", False, False, "q1.101"), ("q1.1", "q1.101", False, False, "q1.1 a1"),
    ("q1.1 z99", "q1.101", False, False, "q1.1001"), ("q1", "q1.1", False, False, "q1 a1"),
    ("q1 z9", "q1.1", False, False, "q1.01"), ("q1 z9", "q1.01", False, False, "q1 z91"),
    ("q1", "q1 a1", False, False, "q1 c.2"),
    ("q1", "q1 1000", False, False, "q1 c.2"),
    ("q1", "q1 c.3", False, False, "q1 c.2"), ("q1 c.2", "q1 a1", False, False, "q1 c.3"),
    ("q1 c.99", "q1 a1", False, False, "q1 a01"), ("q1 2999", "q1 a1", False, False, "q1 a01"),
    ("q1 c.2", "q1 c.3", True, False, "q1 c.2"), ("q1 c.2", "q1 c.3", False, True, "q1 c.3"),
    ("q1 c.2", "q1 c.4", False, False, "q1 c.3"), ("q1 c.9", "q1 c.99", False, False, "q1 c.10"),
    ("q1 c.9", "q1 1000", False, False, "q1 c.10"), ("q1 k5", "q1 k51", False, False, "q1 k501"),
    ("q1 k5 1998", "q1 k5 1999", False, False, "q1 k5 1998 c.2"), ("z9", None, False, False, "z10"),
    ("zzz9999", None, False, False, "zzz9999.1"), ("zzz9999.9", None, False, False, "zzz9999.91"),
    ("q1 k5 w6 y7", "q1 k5 w6 y71", False, False, "q1 k5 w6 y701"), ("q1 z9", "q1.00001", False, False, "q1 z91"),
    ("az9999", "b1", False, False, "aza1"), ("azz9999", "b1", False, False, "azz9999.1"),
)


def expected_room(low, high, with_low, with_high):
    """Whether there is room, by the words of the point."""
    if high is None:
        return True
    if low is None:
        return high != "a1" or with_high
    if compared(low, high) >= 0:
        return low == high and with_low and with_high
    if with_low or with_high:
        return True
    *one, copy = parts_of(low)
    *other, next_copy = parts_of(high)
    return one != other or (next_copy or 1) != (copy or 1) + 1


def in_stretch(text, low, high, with_low, with_high):
    behind = low is None or compared(low, text) < 0 or (with_low and low == text)
    return behind and (high is None or compared(text, high) < 0 or (with_high and high == text))


def asked(action, low, high, with_low, with_high):
    return action(mark_or_none(low), mark_or_none(high), with_low, with_high)


class Room(Case):
    def test_all_pairs_with_and_without_the_truths(self):
        for low, high in itertools.product(NEAR, repeat=2):
            for truths in TRUTHS:
                told = asked(room, low, high, *truths)
                self.assertIs(told, expected_room(low, high, *truths), (low, high, truths))

    def test_left_out_and_by_their_names(self):
        one, other = mark_of("q1"), mark_of("q1 c.2")
        self.assertIs(room(), True)
        self.assertIs(room(one), True)
        self.assertIs(room(one, other), False)
        self.assertIs(room(low=one, high=other), False)
        self.assertIs(room(high=one, low=other), False)
        self.assertIs(room(high=mark_of("a1")), False)
        self.assertIs(room(high=mark_of("a1"), with_low=True), False)
        self.assertIs(room(high=mark_of("a1"), with_high=True), True)
        self.assertIs(room(high=mark_of("a1 c.2")), True)
        self.assertIs(room(one, other, with_high=True), True)
        self.assertIs(room(one, other, with_low=True), True)
        self.assertIs(room(one, one, with_low=True), False)
        self.assertIs(room(one, one, with_high=True), False)
        self.assertIs(room(one, one, with_low=True, with_high=True), True)

    def test_copies_of_one_book(self):
        for text in ("q1", "a1", "q1.5 k5 1998"):
            for copy in range(1, 12):
                low = Mark(*parts_of(text)[:5], None if copy == 1 else copy)
                for more in range(1, 4):
                    high = Mark(*parts_of(text)[:5], copy + more)
                    self.assertIs(room(low, high), more > 1)

    def test_copies_of_many_figures(self):
        low, high = mark_of("q1 c." + "9" * 200), mark_of("q1 c.1" + "0" * 200)
        self.assertIs(room(low, high), False)
        self.assertIs(room(low, high.with_copy(10 ** 200 + 1)), True)
        self.assertEqual(str(shortest(low, high.with_copy(10 ** 200 + 1))), str(high))
        self.refuses_room(low, high)

    def refuses_room(self, low, high, *truths):
        with self.assertRaises(NoRoom) as caught:
            shortest(low, high, *truths)
        self.assertIs(type(caught.exception), NoRoom)
        self.assertIs(type(caught.exception.found), tuple)
        self.assertEqual(len(caught.exception.found), 2)
        self.assertIs(caught.exception.found[0], low)
        self.assertIs(caught.exception.found[1], high)

    def test_refusals(self):
        for low, high in itertools.product(NEAR, repeat=2):
            for truths in TRUTHS:
                if not expected_room(low, high, *truths):
                    self.refuses_room(mark_or_none(low), mark_or_none(high), *truths)
        with self.assertRaises(NoRoom) as caught:
            shortest(high=mark_of("a1"))
        self.assertEqual(caught.exception.found, (None, mark_of("a1")))


class Shortest(Case):
    def test_rows_written_out(self):
        for *stretch, text in ROWS:
            self.assertEqual(str(asked(shortest, *stretch)), text, stretch)

    def test_left_out_and_by_their_names(self):
        self.assertEqual(shortest(), mark_of("a1"))
        self.assertEqual(shortest(with_high=True, with_low=True), mark_of("a1"))
        self.assertEqual(shortest(high=mark_of("a1"), with_high=True), mark_of("a1"))
        self.assertEqual(shortest(low=mark_of("q1"), high=mark_of("q2")), mark_of("q1.1"))
        self.assertEqual(shortest(mark_of("q1"), mark_of("q2"), with_low=True), mark_of("q1"))
        self.assertEqual(shortest(mark_of("q1"), mark_of("q2"), with_high=True), mark_of("q2"))
        self.assertEqual(shortest(mark_of("q1"), with_low=True), mark_of("q1"))

    def test_against_all_marks_of_few_signs(self):
        self.assert_shortest(Shelf(texts_of_at_most_three()), 3, NEAR)

    def test_against_all_marks_of_one_letter_and_number(self):
        near = [text for text in NEAR if text is not None and text.startswith("q1")]
        self.assert_shortest(Shelf(texts_of("q1", 6)), 6, near)

    def assert_shortest(self, shelf, most, near):
        """Of pairs between which the shelf has all marks of so many signs."""
        for low, high in itertools.product(near, repeat=2):
            for truths in TRUTHS:
                if not expected_room(low, high, *truths):
                    continue
                told = str(asked(shortest, low, high, *truths))
                there = shelf.stretch(low, high, *truths)
                if there:
                    self.assertEqual(told, min(there, key=len), (low, high, truths))
                else:
                    self.assertGreater(len(told), most, (low, high, truths))
                    self.assertTrue(is_mark(told))
                    self.assertTrue(in_stretch(told, low, high, *truths), (low, high, truths))

    def test_room_for_ever(self):
        low, high = mark_of("q1"), mark_of("q2")
        for _ in range(100):
            between = shortest(low, high)
            self.assertTrue(low.ahead(between) and between.ahead(high))
            low = between

    def test_down_to_the_next_copy(self):
        low, high = mark_of("q1"), mark_of("q2")
        while room(low, high):
            between = shortest(low, high)
            self.assertTrue(low.ahead(between) and between.ahead(high))
            high = between
        self.assertEqual(str(high), "q1 c.2")

    def test_marks_of_two_hundred_and_forty_signs(self):
        low = "q1." + "3" * 237
        self.assertEqual(str(shortest(mark_of(low), mark_of(low[:-1] + "4"))), low + "1")
        self.assertEqual(str(shortest(mark_of(low), mark_of(low + "1"))), low + "01")
        self.assertEqual(str(shortest(mark_of(low), mark_of(low + " a1"))), low + " c.2")
        self.assertEqual(str(shortest(mark_of(low), mark_of(low + " 1000"))), low + " c.2")
        self.assertEqual(str(shortest(mark_of(low[:-1] + "2"), mark_of(low))), low[:-1] + "21")

    def test_asked_twice(self):
        low, high = mark_of("q1 k5"), mark_of("q1 k6")
        self.assertEqual(shortest(low, high), shortest(mark_of("q1 k5"), mark_of("q1 k6")))


if __name__ == "__main__":
    unittest.main()
