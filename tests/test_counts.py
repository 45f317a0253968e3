"""How many marks there are: points [41] and [44]."""

import unittest

from spinemarks.counts import how_many, with_signs
from spinemarks.errors import NoBound
from spinemarks.marks import Mark
from tests.helper import Case, texts_of_at_most_three

NO_BOUNDS = (None, True, False, -1, -60, 61, 10 ** 29, "", "5", [], [5], (5,), {}, {5: 5}, Mark("a", 1))


def product(one, other):
    """Numbers of ways by signs, of one part and another one behind it."""
    ways = [0] * 61
    for first in range(61):
        for second in range(61 - first):
            ways[first + second] += one[first] * other[second]
    return ways


def choice(rows):
    """Numbers of ways by signs, from tuples of both."""
    ways = [0] * 61
    for signs, many in rows:
        if signs <= 60:
            ways[signs] += many
    return ways


def by_hand():
    """How many marks have just so many signs, for each number from 0 to 60."""
    none = [(0, 1)]
    figures = [(many, 9 * 10 ** (many - 1)) for many in range(1, 61)]
    parts = [choice([(many, 26 ** many) for many in (1, 2, 3)]), choice(figures[:4])]
    parts.append(choice(none + [(1 + signs, many) for signs, many in figures]))
    maker = choice([(2 + signs, 26 * many) for signs, many in figures])
    makers = choice(none)
    for _ in range(3):
        makers = product(makers, maker)
        makers[0] += 1
    parts.append(makers)
    parts.append(choice(none + [(5, 2000)]))
    parts.append(choice(none + [(4, 8)] + [(3 + signs, many) for signs, many in figures[1:]]))
    ways = choice(none)
    for part in parts:
        ways = product(ways, part)
    return ways


class Counts(Case):
    def test_all_bounds_by_hand(self):
        ways = by_hand()
        for many in range(61):
            self.assertEqual(with_signs(many), ways[many])
            self.assertEqual(how_many(many), sum(ways[:many + 1]))

    def test_numbers_written_out(self):
        self.assertEqual([with_signs(many) for many in range(5)], [0, 0, 234, 8424, 244530])
        self.assertEqual([how_many(many) for many in range(5)], [0, 0, 234, 8658, 253188])

    def test_marks_that_were_found_by_trying(self):
        texts = texts_of_at_most_three()
        for bound in range(4):
            self.assertEqual(how_many(bound), len([text for text in texts if len(text) <= bound]))
            self.assertEqual(with_signs(bound), len([text for text in texts if len(text) == bound]))

    def test_kinds(self):
        for many in (0, 1, 2, 60):
            self.assertIs(type(how_many(many)), int)
            self.assertIs(type(with_signs(many)), int)

    def test_no_bounds(self):
        for thing in NO_BOUNDS:
            self.refuses(NoBound, thing, how_many, thing)
            self.refuses(NoBound, thing, with_signs, thing)


if __name__ == "__main__":
    unittest.main()
