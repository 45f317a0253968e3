"""Marks in order, and lists that rise: points [31], [32], [5] and [7]."""

import itertools
import random
import unittest

from spinemarks.errors import NotRising
from spinemarks.order import first_wrong, in_order, joined, order, place_in
from tests.helper import TEXTS, Case, compared, mark_of, marks_of, put_in_order

RISEN = put_in_order(TEXTS)
# Two marks for each part of which the first one is ahead, with other parts that would tell otherwise.
PAIRS = (
    ("q9 k5 1998", "qa1"), ("qzz9", "r1"), ("q9.9 k5", "q76"), ("q1.49 k9", "q1.5"), ("q1 z9 2999", "q1.001"),
    ("q1 k5 w6", "q1 k52"), ("q1 k49", "q1 k5"), ("q1 2999 c.9", "q1 a1"), ("q1 k5", "q1 k5 a1"),
    ("q1 c.9", "q1 1000"), ("q1 1998 c.3", "q1 1999 c.2"), ("q1", "q1 c.2"), ("q1 c.9", "q1 c.10"),
)


def texts_of(marks):
    return [str(mark) for mark in marks]


def shuffled(texts, seed):
    texts = list(texts)
    random.Random(seed).shuffle(texts)
    return texts


def hundred():
    """A hundred texts, with equal ones among them, in no order."""
    return shuffled(list(TEXTS) * 3, 5)[:100]


class Order(unittest.TestCase):
    def test_of_each_part(self):
        for one, other in PAIRS:
            self.assertEqual(order(mark_of(one), mark_of(other)), -1, (one, other))
            self.assertEqual(order(mark_of(other), mark_of(one)), 1, (one, other))

    def test_of_all_pairs(self):
        for one, other in itertools.product(TEXTS, repeat=2):
            told = order(mark_of(one), mark_of(other))
            self.assertIs(type(told), int)
            self.assertEqual(told, compared(one, other))

    def test_of_equal_marks(self):
        for text in TEXTS:
            self.assertEqual(order(mark_of(text), mark_of(text)), 0)


class InOrder(unittest.TestCase):
    def test_lists_and_tuples(self):
        texts = hundred()
        self.assertEqual(len(texts), 100)
        for kind in (list, tuple):
            told = in_order(kind(marks_of(*texts)))
            self.assertIs(type(told), list)
            self.assertEqual(texts_of(told), put_in_order(texts))

    def test_rising_by_place_and_by_name(self):
        marks = marks_of(*hundred())
        for told in (in_order(marks, False), in_order(marks, falling=False)):
            self.assertEqual(texts_of(told), put_in_order(texts_of(marks)))

    def test_falling_by_place_and_by_name(self):
        marks = marks_of(*hundred())
        for told in (in_order(marks, True), in_order(marks, falling=True), in_order(tuple(marks), True)):
            self.assertIs(type(told), list)
            self.assertEqual(texts_of(told), put_in_order(texts_of(marks))[::-1])

    def test_none_and_one(self):
        self.assertEqual(in_order([]), [])
        self.assertEqual(in_order((), True), [])
        self.assertEqual(texts_of(in_order(marks_of("q1"))), ["q1"])
        self.assertEqual(texts_of(in_order(marks_of("q1"), True)), ["q1"])

    def test_each_as_often_as_it_is_there(self):
        told = in_order(marks_of("q2", "q1", "q2", "q1", "q2"))
        self.assertEqual(texts_of(told), ["q1", "q1", "q2", "q2", "q2"])
        told = in_order(marks_of("q2", "q1", "q2", "q1", "q2"), True)
        self.assertEqual(texts_of(told), ["q2", "q2", "q2", "q1", "q1"])

    def test_the_list_handed_in_stays(self):
        for falling in (False, True):
            marks = marks_of("q2", "q1", "q3")
            told = in_order(marks, falling)
            self.assertEqual(texts_of(marks), ["q2", "q1", "q3"])
            told.clear()
            self.assertEqual(len(in_order(marks, falling)), 3)
            risen = in_order(marks)
            self.assertIsNot(in_order(risen), risen)


class FirstWrong(unittest.TestCase):
    def test_lists_that_rise(self):
        self.assertIsNone(first_wrong([]))
        self.assertIsNone(first_wrong(()))
        self.assertIsNone(first_wrong(marks_of("q1")))
        self.assertIsNone(first_wrong(marks_of(*RISEN)))
        self.assertIsNone(first_wrong(tuple(marks_of(*RISEN))))

    def test_lists_that_fall(self):
        self.assertEqual(first_wrong(marks_of("q2", "q1")), 1)
        self.assertEqual(first_wrong(marks_of(*RISEN[::-1])), 1)

    def test_equal_neighbours(self):
        self.assertEqual(first_wrong(marks_of("q1", "q1")), 1)
        for at in range(len(RISEN)):
            self.assertEqual(first_wrong(marks_of(*RISEN[:at + 1], *RISEN[at:])), at + 1)

    def test_the_first_one_that_is_wrong(self):
        self.assertEqual(first_wrong(marks_of("q1", "q3", "q2", "q4", "q3")), 2)
        self.assertEqual(first_wrong(marks_of("q1", "q2", "q3", "q1")), 3)

    def test_a_mark_is_held_against_the_one_straight_ahead(self):
        self.assertEqual(first_wrong(marks_of("q5", "q1", "q2", "q3")), 1)
        self.assertEqual(first_wrong(marks_of("q5", "q6", "q1", "q2", "q1")), 2)

    def test_the_list_handed_in_stays(self):
        marks = marks_of("q2", "q1", "q3")
        first_wrong(marks)
        self.assertEqual(texts_of(marks), ["q2", "q1", "q3"])


class Joined(Case):
    def test_marks_of_one_list_and_of_both(self):
        for seed in range(20):
            one = put_in_order(shuffled(TEXTS, seed)[:seed])
            other = put_in_order(shuffled(TEXTS, seed + 100)[:20 - seed // 2])
            for kind in (list, tuple):
                told = joined(kind(marks_of(*one)), kind(marks_of(*other)))
                self.assertIs(type(told), list)
                self.assertEqual(texts_of(told), put_in_order(set(one) | set(other)))

    def test_none(self):
        self.assertEqual(joined([], []), [])
        self.assertEqual(texts_of(joined([], marks_of("q1", "q2"))), ["q1", "q2"])
        self.assertEqual(texts_of(joined(marks_of("q1", "q2"), ())), ["q1", "q2"])

    def test_fifty_and_fifty(self):
        one = [f"q{number}" for number in range(1, 51)]
        other = [f"q{number}" for number in range(2, 102, 2)]
        told = joined(marks_of(*one), marks_of(*other))
        self.assertEqual(texts_of(told), put_in_order(set(one) | set(other)))

    def test_the_lists_handed_in_stay(self):
        one = marks_of("q1", "q3")
        other = marks_of("q2", "q3")
        told = joined(one, other)
        self.assertEqual(texts_of(told), ["q1", "q2", "q3"])
        told.clear()
        self.assertEqual(texts_of(one), ["q1", "q3"])
        self.assertEqual(texts_of(other), ["q2", "q3"])
        self.assertIsNot(joined(one, []), one)
        self.assertIsNot(joined([], other), other)

    def test_refusals(self):
        rises = marks_of("q1", "q2", "q3")
        second = marks_of("q1", "q2", "q2")
        first = marks_of("q2", "q1", "q3")
        self.refuses(NotRising, 1, joined, first, rises)
        self.refuses(NotRising, 2, joined, second, rises)
        self.refuses(NotRising, 1, joined, rises, first)
        self.refuses(NotRising, 2, joined, rises, second)
        self.refuses(NotRising, 2, joined, second, first)
        self.refuses(NotRising, 1, joined, first, second)
        self.refuses(NotRising, 1, joined, [], first)
        self.refuses(NotRising, 1, joined, tuple(first), ())


class PlaceIn(Case):
    def test_marks_that_are_there_and_that_are_not(self):
        there = RISEN[1::2]
        for kind in (list, tuple):
            marks = kind(marks_of(*there))
            for text in RISEN:
                many = len([held for held in there if compared(held, text) < 0])
                told = place_in(marks, mark_of(text))
                self.assertEqual(told, (many, text in there))
                self.assertIs(type(told), tuple)
                self.assertIs(type(told[0]), int)
                self.assertIs(type(told[1]), bool)

    def test_ends(self):
        marks = marks_of("q2", "q4")
        rows = {"q1": (0, False), "q2": (0, True), "q3": (1, False), "q4": (1, True), "q5": (2, False)}
        for text, told in rows.items():
            self.assertEqual(place_in(marks, mark_of(text)), told)
        self.assertEqual(place_in([], mark_of("q1")), (0, False))

    def test_refusals(self):
        mark = mark_of("q1")
        self.refuses(NotRising, 1, place_in, marks_of("q2", "q1"), mark)
        self.refuses(NotRising, 1, place_in, marks_of("q1", "q1"), mark)
        self.refuses(NotRising, 3, place_in, tuple(marks_of("q1", "q2", "q3", "q3", "q1")), mark)

    def test_the_list_handed_in_stays(self):
        marks = marks_of("q1", "q3")
        place_in(marks, mark_of("q2"))
        self.assertEqual(texts_of(marks), ["q1", "q3"])


if __name__ == "__main__":
    unittest.main()
