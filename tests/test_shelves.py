"""Shelves, on which books are put and from which they are taken: points [101] to [105]."""

import itertools
import random
import unittest

from spinemarks.errors import Full, NoRow, NoSize, NoSizes, NotRising, NotThere, There
from spinemarks.marks import Mark
from spinemarks.shelves import Shelves
from tests.helper import TEXTS, Case, compared, mark_of, marks_of, put_in_order, texts_told

NO_SIZE = (None, True, False, 0, 7, -1, 10 ** 29, "3", "", [3], (3,), {}, Mark("a", 1))
NO_SIZES = (None, True, 0, 3, "", "33", {}, {3: 3}, Mark("a", 1), [], (), [1] * 9, (6,) * 9, [None] * 9)
NO_ROWS = (True, False, 0, 2, "", "ab", {}, {"a": [], "b": []}, Mark("a", 1), [], (), [[]], [[], [], []], ((), (), ()))
NO_ROW = (
    None, True, 0, "", "a1", {}, {"a1": Mark("a", 1)}, Mark("a", 1), ["a1"], [None], [Mark("a", 1), 1], (Mark("a", 1), "b1"),
    [[Mark("a", 1)]],
)


def house_of(sizes, *rows):
    """A house of shelves of these sizes, with the marks of each text of marks between bars on a shelf."""
    return Shelves(sizes, [marks_of(*filter(None, row.split("/"))) for row in rows])


def texts_on(house):
    rows = house.rows()
    assert type(rows) is list
    return [texts_told(row) for row in rows]


def fewest_moves(sizes, rows, text):
    """How many books, at least, go to another shelf where the text's mark is put in: by all ways to do so."""
    stood = {held: at for at, row in enumerate(rows) for held in row}
    books = put_in_order([*stood, text])
    found = []

    def put_on(at, first, moves):
        if at == len(sizes):
            if first == len(books):
                found.append(moves)
            return
        for many in range(min(sizes[at], len(books) - first) + 1):
            row = books[first:first + many]
            put_on(at + 1, first + many, moves + len([held for held in row if stood.get(held, at) != at]))

    put_on(0, 0, 0)
    return min(found)


def houses_by_chance(many, seed, shelves=4, most=3):
    """Sizes, rows of texts and a text, of houses that are often full in places."""
    chance = random.Random(seed)
    for _ in range(many):
        sizes = [chance.randint(1, most) for _ in range(chance.randint(1, shelves))]
        full = chance.random()
        counts = [size if chance.random() < full else chance.randint(0, size) for size in sizes]
        texts = put_in_order([f"q{number}" for number in chance.sample(range(1, 60), sum(counts))])
        rows = []
        for count in counts:
            rows.append(texts[:count])
            texts = texts[count:]
        yield sizes, rows, f"q{chance.randint(1, 60)}"


class Made(Case):
    def test_what_it_tells(self):
        for sizes, rows in (
            ([1], [[]]), ([6] * 8, [[]] * 8), ([2, 3], [["a1", "a2"], ["b1"]]), ((1, 2, 3), [[], ["a1"], []]),
            ([3, 1, 6], [["q1", "q2"], [], ["q2 c.2", "q3"]]),
        ):
            given = [marks_of(*row) for row in rows]
            for house in (Shelves(sizes, given), Shelves(tuple(sizes), tuple(tuple(row) for row in given))):
                self.assertEqual((type(house.sizes()), house.sizes()), (list, list(sizes)))
                self.assertEqual(texts_on(house), rows)
                self.assertEqual(len(house), sum(len(row) for row in rows))

    def test_empty_shelves(self):
        for house in (Shelves([2, 1]), Shelves([2, 1], None), Shelves([2, 1], rows=None), Shelves([2, 1], ((), []))):
            self.assertEqual(house.rows(), [[], []])
            self.assertEqual(len(house), 0)
            self.assertEqual(house, Shelves([2, 1]))

    def test_lists_are_kept_as_copies_and_told_as_new_ones(self):
        sizes = [2, 2]
        rows = [marks_of("a1"), marks_of("b1")]
        house = Shelves(sizes, rows)
        sizes.append(9)
        sizes[0] = 7
        rows[0].append(mark_of("z1"))
        rows.append([])
        house.sizes().append(1)
        house.rows()[0].clear()
        house.rows().clear()
        self.assertEqual((house.sizes(), texts_on(house)), ([2, 2], [["a1"], ["b1"]]))
        house = Shelves([1, 1], [[]] * 2)
        house.put(mark_of("a1"))
        self.assertEqual(texts_on(house), [["a1"], []])

    def test_no_sizes_and_no_size(self):
        for thing in NO_SIZES:
            self.refuses(NoSizes, thing, Shelves, thing)
            self.refuses(NoSizes, thing, Shelves, thing, "rows")
        for thing in NO_SIZE:
            self.refuses(NoSize, thing, Shelves, [thing])
            self.refuses(NoSize, thing, Shelves, (1, thing, "x"))
            self.refuses(NoSize, thing, Shelves, [6, 1, thing], "rows")
        for size in range(1, 7):
            self.assertEqual(Shelves([size] * 8).sizes(), [size] * 8)

    def test_no_row(self):
        for thing in NO_ROWS:
            self.refuses(NoRow, thing, Shelves, [1, 2], thing)
        for thing in NO_ROW:
            self.refuses(NoRow, thing, Shelves, [3, 3], [thing, []])
            self.refuses(NoRow, thing, Shelves, [3, 3], (marks_of("q1"), thing))
            self.refuses(NoRow, thing, Shelves, [3, 3, 3], [marks_of("q2", "q1"), thing, 0])
        for size in range(1, 7):
            row = [Mark("q", number) for number in range(1, size + 2)]
            self.refuses(NoRow, row, Shelves, [6, size], [[], row])
            self.assertEqual(len(Shelves([6, size], [[], row[:-1]])), size)

    def test_not_rising(self):
        for sizes, rows, at in (
            ([2], ["q2/q1"], 1), ([2], ["q1/q1"], 1), ([1, 1], ["q2", "q1"], 1), ([1, 1], ["q1", "q1"], 1),
            ([3, 3], ["q1/q2", "q3/q3"], 3), ([3, 3], ["q1/q3", "q2/q1"], 2), ([1, 1, 1], ["q2", "", "q1"], 1),
            ([2, 1, 1, 1, 2], ["q1/q2", "", "q3", "", "q3"], 3), ([1, 2, 1], ["", "q1/q1", "q1"], 1),
            ([1, 2, 2], ["", "q9/q10", "q10 1998/q10 c.2"], 3), ([6, 6], ["q1/q2/q3/q4/q5/q6", "q7/q8/q9/q10/q11/q11"], 11),
        ):
            self.refuses(NotRising, at, house_of, sizes, *rows)

    def test_two_at_once(self):
        falling = marks_of("q2", "q1")
        self.refuses(NoSize, 0, Shelves, [3, 0], None)
        self.refuses(NoSize, 0, Shelves, [0, 7], [falling])
        self.refuses(NoRow, 7, Shelves, [3, 3], 7)
        odd = ["q1"]
        self.refuses(NoRow, odd, Shelves, [3, 3], [falling, odd])
        # Of one row it is looked at what it is, and how long, ahead of the next one.
        self.refuses(NoRow, falling, Shelves, [1, 3], [falling, odd])
        self.refuses(NoRow, odd, Shelves, [3, 1], [odd, falling])
        self.refuses(NotRising, 1, Shelves, [2, 3], [falling, falling])

    def test_equality(self):
        rows = [
            ([2, 2], "a1", "b1"), ([2, 2], "a1/b1", ""), ([2, 2], "", "a1/b1"), ([2, 3], "a1", "b1"), ([2, 2, 2], "a1", "b1", ""),
            ([2, 2], "a1", "b1 c.2"), ([2, 2], "", ""), ([2, 1], "", ""),
        ]
        for (one, first), (other, second) in itertools.product(enumerate(rows), repeat=2):
            self.assertEqual(house_of(*first) == house_of(*second), one == other)
            self.assertEqual(house_of(*first) != house_of(*second), one != other)
        house = house_of([2, 2], "a1", "b1")
        for thing in (None, True, 2, "", house.rows(), house.sizes(), (house.sizes(), house.rows()), Mark("a", 1), {}):
            self.assertFalse(house == thing)
            self.assertTrue(house != thing)

    def test_houses_made_alike_in_another_way(self):
        one, other = Shelves([2, 1]), Shelves([2])
        for house in (one, other):
            house.put(mark_of("q1"))
        self.assertNotEqual(one, other)
        other.grown(1)
        self.assertEqual(one, other)
        one.put(mark_of("q2"))
        self.assertNotEqual(one, other)
        one.take(mark_of("q2"))
        self.assertEqual(one, other)


class Twins(Case):
    def test_a_twin_and_the_house_go_their_own_ways(self):
        house = house_of([2, 2], "q1/q2", "q3")
        twin = house.twin()
        self.assertIsInstance(twin, Shelves)
        self.assertEqual(twin, house)
        self.assertIsNot(twin, house)
        twin.put(mark_of("q1.5"))
        twin.grown(3)
        self.assertEqual((house.sizes(), texts_on(house)), ([2, 2], [["q1", "q2"], ["q3"]]))
        self.assertNotEqual(twin, house)
        house.take(mark_of("q3"))
        self.assertEqual((twin.sizes(), texts_on(twin)), ([2, 2, 3], [["q1", "q1.5"], ["q2", "q3"], []]))
        self.assertEqual(house.twin(), house)


class Put(Case):
    def check(self, sizes, rows, text):
        """Puts the text's mark into a house; tells how many books went to another shelf."""
        house = Shelves(sizes, [marks_of(*row) for row in rows])
        same = house.twin()
        told = house.put(mark_of(text))
        self.assertIs(type(told), list)
        stood = {held: at for at, row in enumerate(rows) for held in row}
        texts = texts_on(house)
        stands = {held: at for at, row in enumerate(texts) for held in row}
        self.assertEqual([held for row in texts for held in row], put_in_order([*stood, text]))
        self.assertEqual(house.sizes(), sizes)
        self.assertTrue(all(len(row) <= size for row, size in zip(texts, sizes)))
        went = put_in_order([held for held in stood if stands[held] != stood[held]])
        self.assertEqual([type(row) for row in told], [tuple] * len(told))
        self.assertEqual([(str(mark), *places) for mark, *places in told], [(held, stood[held], stands[held]) for held in went])
        self.assertEqual(same.put(mark_of(text)), told)
        self.assertEqual(same, house)
        return len(told)

    def test_no_way_moves_fewer_books(self):
        moves = {}
        for sizes, rows, text in houses_by_chance(2000, 21):
            held = [one for row in rows for one in row]
            if text not in held and len(held) < sum(sizes):
                many = self.check(sizes, rows, text)
                self.assertEqual(many, fewest_moves(sizes, rows, text), (sizes, rows, text))
                moves[many] = moves.get(many, 0) + 1
        self.assertTrue(all(moves[many] > 5 for many in range(4)), moves)

    def test_houses_of_many_shelves_that_are_full_in_places(self):
        for sizes, rows, text in houses_by_chance(500, 22, shelves=7, most=2):
            held = [one for row in rows for one in row]
            if text not in held and len(held) < sum(sizes):
                self.assertEqual(self.check(sizes, rows, text), fewest_moves(sizes, rows, text))

    def test_nothing_goes_where_a_place_is_free_between_the_neighbours(self):
        for sizes, rows, text in (
            ([2, 2], [["q1"], ["q3", "q4"]], "q2"), ([1, 2], [["q1"], ["q3"]], "q2"), ([1, 1, 1], [["q1"], [], ["q3"]], "q2"),
            ([1, 2, 2], [[], ["q2", "q3"], []], "q1"), ([1, 2, 1], [[], ["q2", "q3"], []], "q4"),
            ([1, 1, 1, 1], [["q1"], [], [], ["q9"]], "q5"), ([1], [[]], "q5"), ([6] * 8, [[]] * 8, "q5"),
            ([3], [["q1", "q3"]], "q2"), ([3, 2], [["q1", "q3"], ["q4", "q5"]], "q2"),
        ):
            self.assertEqual(self.check(sizes, rows, text), 0, (sizes, rows, text))

    def test_the_nearest_free_place(self):
        for sizes, rows, text, moves in (
            ([2, 2], [["q1", "q3"], []], "q2", [("q3", 0, 1)]),
            ([2, 2], [[], ["q1", "q3"]], "q2", [("q1", 1, 0)]),
            ([1, 1, 1], [["q1"], ["q3"], []], "q2", [("q3", 1, 2)]),
            ([1, 1, 1], [[], ["q1"], ["q3"]], "q2", [("q1", 1, 0)]),
            ([1, 1, 1], [["q2"], ["q3"], []], "q1", [("q2", 0, 1), ("q3", 1, 2)]),
            ([1, 1, 1], [[], ["q1"], ["q2"]], "q3", [("q1", 1, 0), ("q2", 2, 1)]),
            ([2, 1, 2, 2], [["q1"], ["q2"], ["q3", "q5"], ["q6", "q7"]], "q4", [("q2", 1, 0), ("q3", 2, 1)]),
            ([2, 1, 2, 3], [["q1"], ["q2"], ["q3", "q5"], ["q6", "q7"]], "q4", [("q5", 2, 3)]),
            # Free places beyond the nearest one, on the same side.
            ([1, 1, 1, 2, 1, 1], [[], [], [], ["q1", "q3"], ["q4"], []], "q2", [("q1", 3, 2)]),
            ([1, 1, 2, 1, 1], [[], ["p5"], ["q1", "q3"], [], []], "q2", [("q3", 2, 3)]),
        ):
            house = Shelves(sizes, [marks_of(*row) for row in rows])
            told = house.put(mark_of(text))
            self.assertEqual([(str(mark), one, other) for mark, one, other in told], moves)
            self.assertEqual(self.check(sizes, rows, text), len(moves))

    def test_several_ways_with_as_few(self):
        for sizes, rows, text, many in (
            ([1, 1, 1], [[], ["q1"], []], "q1.5", 0), ([1, 2, 1], [[], ["q1", "q3"], []], "q2", 1),
            ([1, 1, 2, 1, 1], [[], ["q1"], ["q2", "q4"], ["q5"], []], "q3", 2),
        ):
            self.assertEqual(self.check(sizes, rows, text), many)

    def test_marks_with_all_parts(self):
        chance = random.Random(23)
        for _ in range(10):
            texts = chance.sample(TEXTS, 24)
            house = Shelves([6, 6, 6, 6])
            for number, text in enumerate(texts):
                house.put(mark_of(text))
                self.assertEqual([held for row in texts_on(house) for held in row], put_in_order(texts[:number + 1]))
                self.assertTrue(all(len(row) <= 6 for row in house.rows()))

    def test_there_ahead_of_full(self):
        house = house_of([2, 1], "q1/q2", "q3")
        for text in ("q1", "q2", "q3"):
            mark = mark_of(text)
            self.refuses(There, mark, house.put, mark)
        for text in ("q1.5", "q4", "a1", "q1 c.2"):
            self.refuses(Full, 3, house.put, mark_of(text))
        self.assertEqual(house, house_of([2, 1], "q1/q2", "q3"))
        house = house_of([2, 2], "q1/q2", "q3")
        mark = mark_of("q2")
        self.refuses(There, mark, house.put, mark)
        self.assertEqual(house, house_of([2, 2], "q1/q2", "q3"))

    def test_full_and_empty_houses(self):
        house = Shelves([6] * 8)
        for number in range(48, 0, -1):
            house.put(Mark("q", number))
        self.assertEqual(texts_on(house), [[f"q{6 * at + number}" for number in range(1, 7)] for at in range(8)])
        self.refuses(Full, 48, house.put, Mark("q", 49))
        house = Shelves([1])
        house.put(mark_of("q1"))
        self.refuses(Full, 1, house.put, mark_of("q2"))


class Taken(Case):
    def test_take_and_shelf_with(self):
        for sizes, rows, _ in houses_by_chance(60, 24):
            for at, row in enumerate(rows):
                for text in row:
                    house = Shelves(sizes, [marks_of(*held) for held in rows])
                    self.assertEqual((house.shelf_with(mark_of(text)), type(house.shelf_with(mark_of(text)))), (at, int))
                    self.assertEqual(texts_on(house), rows)
                    told = house.take(mark_of(text))
                    self.assertEqual((told, type(told)), (at, int))
                    left = [[other for other in held if other != text] for held in rows]
                    self.assertEqual((texts_on(house), house.sizes()), (left, sizes))
                    mark = mark_of(text)
                    self.refuses(NotThere, mark, house.take, mark)
                    self.refuses(NotThere, mark, house.shelf_with, mark)

    def test_not_there(self):
        house = house_of([2, 2, 1], "q1/q3", "q5", "")
        for text in ("a1", "q1 c.2", "q2", "q3.5", "q4", "q5 k5", "q6"):
            mark = mark_of(text)
            self.refuses(NotThere, mark, house.take, mark)
            self.refuses(NotThere, mark, house.shelf_with, mark)
            self.refuses(NotThere, mark, Shelves([1]).take, mark)
        self.assertEqual(house, house_of([2, 2, 1], "q1/q3", "q5", ""))

    def test_taken_and_put_in_again(self):
        house = house_of([2, 2], "q1/q2", "q3/q4")
        self.assertEqual(house.take(mark_of("q2")), 0)
        self.assertEqual(house.put(mark_of("q2")), [])
        self.assertEqual(house, house_of([2, 2], "q1/q2", "q3/q4"))


class Grown(Case):
    def test_grown(self):
        house = house_of([2], "q1/q2")
        for many, size in enumerate((1, 6, 3, 2, 4, 5, 1), 2):
            self.assertIsNone(house.grown(size))
            self.assertEqual((house.sizes()[-1], len(house.sizes()), len(house)), (size, many, 2))
            self.assertEqual(house.rows()[1:], [[]] * (many - 1))
        self.assertEqual((house.sizes(), texts_on(house)[0]), ([2, 1, 6, 3, 2, 4, 5, 1], ["q1", "q2"]))
        before = house.twin()
        with self.assertRaises(NoSizes) as caught:
            house.grown(6)
        self.assertEqual(caught.exception.found, [2, 1, 6, 3, 2, 4, 5, 1, 6])
        caught.exception.found.clear()
        self.assertEqual(house, before)

    def test_no_size_ahead_of_no_sizes(self):
        for many in (1, 8):
            house = Shelves([3] * many)
            for thing in NO_SIZE:
                self.refuses(NoSize, thing, house.grown, thing)
            self.assertEqual(house, Shelves([3] * many))

    def test_a_grown_house_takes_more_books(self):
        house = house_of([1], "q1")
        self.refuses(Full, 1, house.put, mark_of("a1"))
        house.grown(1)
        self.assertEqual([(str(mark), *places) for mark, *places in house.put(mark_of("a1"))], [("q1", 0, 1)])
        self.assertEqual(compared("a1", "q1"), -1)


if __name__ == "__main__":
    unittest.main()
