"""Borders between shelves: points [106] and [107]."""

import random
import unittest

from spinemarks.borders import border, borders, sought
from spinemarks.errors import NoShelf
from spinemarks.marks import Mark
from spinemarks.shelves import Shelves
from tests.helper import TEXTS, Case, Shelf, compared, mark_of, marks_of, put_in_order, texts_behind, texts_of, texts_of_at_most_three
from tests.test_shelves import house_of


def houses_by_chance(texts, many, seed):
    """Houses with some of these texts' marks, and some of their shelves empty."""
    chance = random.Random(seed)
    for _ in range(many):
        sizes = [chance.randint(1, 4) for _ in range(chance.randint(1, 8))]
        counts = [0 if chance.random() < 0.3 else chance.randint(1, size) for size in sizes]
        left = put_in_order(chance.sample(texts, sum(counts)))
        rows = []
        for count in counts:
            rows.append(marks_of(*left[:count]))
            left = left[count:]
        yield Shelves(sizes, rows)


def border_by_hand(shelf, house, number):
    """The text of the border, of all texts of the shelf, or None; and whether there is any that it has."""
    rows = house.rows()
    ahead = [mark for row in rows[:number] for mark in row]
    if not ahead or not rows[number]:
        return None
    texts = shelf.stretch(str(ahead[-1]), str(rows[number][0]), False, True)
    fewest = min(len(text) for text in texts)
    return [text for text in texts if len(text) == fewest][0]


def sought_by_hand(house, text):
    found = None
    for number, edge in enumerate(borders(house)):
        if house.rows()[number] and (edge is None or compared(str(edge), text) <= 0):
            found = number
    return found


class Borders(Case):
    def check(self, shelf, house):
        told = borders(house)
        self.assertIs(type(told), list)
        expected = [border_by_hand(shelf, house, number) for number in range(len(house.sizes()))]
        self.assertEqual([None if mark is None else str(mark) for mark in told], expected)
        for number, mark in enumerate(told):
            self.assertEqual(border(house, number), mark)
            self.assertIn(type(mark), (Mark, type(None)))
        return len([text for text in expected if text is not None])

    def test_against_all_marks_of_few_signs(self):
        many = 0
        shelf = Shelf(texts_of_at_most_three())
        for house in houses_by_chance(shelf.texts, 30, 25):
            many += self.check(shelf, house)
        for house in houses_by_chance(shelf.stretch("q1", "q30", True), 30, 25):
            many += self.check(shelf, house)
        shelf = Shelf(texts_of("q1", 6))
        near = [text for text in shelf.texts if text.startswith(("q1.9", "q1 k5", "q1 c", "q1.99"))]
        for house in houses_by_chance(near, 60, 26):
            many += self.check(shelf, house)
        self.assertGreater(many, 150)

    def test_rows_written_out(self):
        for sizes, rows, texts in (
            ([2], [""], [None]), ([2], ["q1"], [None]), ([2, 2], ["q1", "q3"], [None, "q2"]),
            ([2, 2], ["q1/q2", "q3/q4"], [None, "q3"]), ([2, 2], ["q76", "q77"], [None, "q77"]),
            ([1, 1, 1], ["", "q76.1", "q76.2"], [None, None, "q76.2"]), ([1, 1, 1], ["q1", "", "q9"], [None, None, "q2"]),
            ([1, 1, 1], ["q1", "q9", ""], [None, "q2", None]), ([1] * 4, ["", "", "q1", ""], [None] * 4),
            ([1] * 5, ["", "q1", "", "q1.5 k5", "r1"], [None, None, None, "q1.1", "q2"]),
            # Of neighbouring copies of one book the border is the later one itself.
            ([1, 1], ["q1", "q1 c.2"], [None, "q1 c.2"]), ([1, 1], ["q1 c.11", "q1 c.12"], [None, "q1 c.12"]),
            ([1, 1], ["q1 c.2", "q1 c.9"], [None, "q1 c.3"]), ([1, 1], ["q1 c.9", "q1 c.19"], [None, "q1 c.10"]),
            ([1, 1], ["q9", "q10"], [None, "q10"]), ([1, 1], ["q9.9", "q10"], [None, "q10"]), ([1, 1], ["q10", "q11"], [None, "q11"]),
            ([1, 1], ["zzz9999", "zzz9999.1"], [None, "zzz9999.1"]), ([1, 1], ["a1", "zzz9999"], [None, "a2"]),
        ):
            house = house_of(sizes, *rows)
            told = [None if mark is None else str(mark) for mark in borders(house)]
            self.assertEqual(told, texts, rows)

    def test_no_shelf(self):
        house = house_of([2, 2, 1], "q1/q2", "q3", "")
        for thing in (None, True, False, -1, 3, 8, 10 ** 29, "0", "", [0], (0,), {}, Mark("q", 1)):
            self.refuses(NoShelf, thing, border, house, thing)
        self.refuses(NoShelf, 1, border, Shelves([1]), 1)
        self.assertIsNone(border(Shelves([1]), 0))

    def test_behind_a_book_put_in_or_taken_out(self):
        house = house_of([2, 2, 2], "q1/q2", "q5", "q9")
        self.assertEqual(borders(house), [None, *marks_of("q3", "q6")])
        house.put(mark_of("q3.5"))
        self.assertEqual(borders(house), [None, *marks_of("q3", "q6")])
        house.take(mark_of("q5"))
        house.put(mark_of("q5.5 k5"))
        self.assertEqual(borders(house), [None, *marks_of("q3", "q6")])
        house.take(mark_of("q3.5"))
        self.assertEqual(borders(house), [None, *marks_of("q3", "q6")])
        house.take(mark_of("q5.5 k5"))
        self.assertEqual(borders(house), [None, None, mark_of("q3")])
        house.take(mark_of("q1"))
        house.take(mark_of("q2"))
        self.assertEqual(borders(house), [None, None, None])

    def test_new_lists_and_nothing_changed(self):
        house = house_of([2, 2], "q1", "q3")
        borders(house).clear()
        border(house, 1)
        sought(house, mark_of("q2"))
        self.assertEqual(borders(house), [None, mark_of("q2")])
        self.assertEqual(house, house_of([2, 2], "q1", "q3"))


class Sought(Case):
    def test_each_book_where_it_stands_and_other_marks_by_the_words(self):
        texts = texts_behind("q1", 4)
        for house in houses_by_chance(texts, 40, 27):
            for number, row in enumerate(house.rows()):
                for mark in row:
                    told = sought(house, mark)
                    self.assertEqual((told, type(told)), (number, int))
            edges = [mark for mark in borders(house) if mark is not None]
            for mark in edges + marks_of(*texts[::7], "a1", "zzz9999", "p9", "q1 c.2", "q2"):
                self.assertEqual(sought(house, mark), sought_by_hand(house, str(mark)))

    def test_marks_with_all_parts(self):
        for house in houses_by_chance(list(TEXTS), 40, 28):
            for text in TEXTS:
                self.assertEqual(sought(house, mark_of(text)), sought_by_hand(house, text))

    def test_rows_written_out(self):
        house = house_of([2] * 6, "", "q1/q2", "", "q5/q6", "q9", "")
        self.assertEqual(borders(house), [None, None, None, mark_of("q3"), mark_of("q7"), None])
        for text, number in (
            ("a1", 1), ("q1", 1), ("q1.5", 1), ("q2", 1), ("q2.9", 1), ("q3", 3), ("q3 c.2", 3), ("q5", 3), ("q5.5", 3),
            ("q6", 3), ("q6.9", 3), ("q7", 4), ("q8", 4), ("q9", 4), ("q10", 4), ("zzz9999", 4),
        ):
            self.assertEqual(sought(house, mark_of(text)), number, text)

    def test_no_books(self):
        for house in (Shelves([1]), Shelves([2] * 8)):
            self.assertIsNone(sought(house, mark_of("q1")))

    def test_behind_a_book_put_in_or_taken_out(self):
        house = house_of([2, 2], "q1/q2", "q5/q6")
        self.assertEqual(sought(house, mark_of("q4")), 1)
        house.take(mark_of("q2"))
        self.assertEqual(sought(house, mark_of("q2")), 1)
        house.put(mark_of("q3"))
        self.assertEqual([sought(house, mark_of(text)) for text in ("q3", "q3.5", "q4")], [0, 0, 1])
        house.take(mark_of("q5"))
        house.take(mark_of("q6"))
        self.assertEqual(sought(house, mark_of("q6")), 0)


if __name__ == "__main__":
    unittest.main()
