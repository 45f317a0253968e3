"""Houses as texts: point [117]."""

import random
import unittest

from spinemarks.classes import Scheme
from spinemarks.errors import (
    Crossing, NoHead, NoName, NoPart, NoRow, NoSize, NoSteps, NoText, NotRising, NoWay, Twice, Upside,
)
from spinemarks.housetexts import house_text, read_house
from spinemarks.marks import Mark
from spinemarks.rules import Rule, first_rule
from spinemarks.shelves import Shelves
from tests.helper import NO_TEXTS, TEXTS, Case, marks_of, put_in_order
from tests.test_classes import schemes_by_chance
from tests.test_rules import rules_by_chance

# A house with an empty shelf in front, between and behind.
ROWS = (
    "shelves 1 3 2 6 1", "1 q1", "1 q1 c.2", "3 q2.5 k5 w61", "3 q9", "3 q10 1998 c.3", "rule", "number figures",
    "year late", "scheme", "one q1 q5", "two q2 q2.9",
)


def text_of(*rows):
    return "".join(row + "\n" for row in rows)


def otherwise(at, *rows):
    """The rows above, with these in the place of the one of this number."""
    return text_of(*ROWS[:at], *rows, *ROWS[at + 1:])


def houses_by_chance():
    chance = random.Random(33)
    for steps, classes in zip(rules_by_chance(50, 34), schemes_by_chance()):
        sizes = [chance.randint(1, 6) for _ in range(chance.randint(1, 8))]
        counts = [0 if chance.random() < 0.3 else chance.randint(0, min(size, 4)) for size in sizes]
        left = put_in_order(chance.sample(TEXTS, sum(counts)))
        rows = []
        for count in counts:
            rows.append(left[:count])
            left = left[count:]
        yield sizes, rows, steps, classes


class Written(Case):
    def test_houses_there_and_back(self):
        for sizes, rows, steps, classes in houses_by_chance():
            house = (Shelves(sizes, [marks_of(*row) for row in rows]), Rule(steps), Scheme(classes))
            text = house_text(*house)
            expected = ["shelves " + " ".join(map(str, sizes))]
            expected += [f"{at} {held}" for at, row in enumerate(rows) for held in row]
            expected += ["rule", *map(" ".join, steps), "scheme", *map(" ".join, classes)]
            self.assertEqual((type(text), text), (str, text_of(*expected)))
            told = read_house(text)
            self.assertEqual((type(told), told), (tuple, house))
            self.assertEqual(told[2].rows(), classes)
            self.assertEqual(house_text(*told), text)

    def test_houses_without_books_and_classes(self):
        text = house_text(Shelves([6]), first_rule(), Scheme([]))
        rows = ["letters words", "number whole", "points decimal", "makers decimal", "year rising", "copy rising"]
        self.assertEqual(text, text_of("shelves 6", "rule", *rows, "scheme"))
        self.assertEqual(read_house(text), (Shelves([6]), first_rule(), Scheme([])))
        told = read_house(text_of("shelves 1 2 3 4 5 6 1 2", "rule", "copy falling", "scheme"))
        self.assertEqual(told, (Shelves([1, 2, 3, 4, 5, 6, 1, 2]), Rule([("copy", "falling")]), Scheme([])))

    def test_rows_written_out(self):
        shelves, rule, scheme = read_house(text_of(*ROWS))
        self.assertEqual(shelves.sizes(), [1, 3, 2, 6, 1])
        self.assertEqual([len(row) for row in shelves.rows()], [0, 2, 0, 3, 0])
        self.assertEqual(rule, Rule([("number", "figures"), ("year", "late")]))
        self.assertEqual(scheme, Scheme([("one", "q1", "q5"), ("two", "q2", "q2.9")]))
        self.assertEqual(house_text(shelves, rule, scheme), text_of(*ROWS))

    def test_the_house_that_is_told_is_the_askers_own(self):
        text = text_of(*ROWS)
        read_house(text)[0].take(Mark("q", 1))
        shelves, rule, scheme = read_house(text)
        self.assertEqual(len(shelves), 5)
        house_text(shelves, rule, scheme)
        self.assertEqual(house_text(shelves, rule, scheme), text)


class NoRows(Case):
    def test_no_text(self):
        for thing in NO_TEXTS:
            self.refuses(NoText, thing, read_house, thing)

    def test_the_first_row(self):
        for row in (
            "", "shelves", "shelves ", " shelves 1", "shelves  1", "shelves 1 ", "shelves 1  2", "Shelves 1", "shelf 1", "1 2",
            "shelves x", "shelves 01", "shelves 1 00", "shelves -1", "shelves +1", "shelves 1.5", "shelves 1 2 3 4 5 6 1 2 3",
            "shelves q1", "rule", "0 q1", "shelves 1_0", "shelves \u0661", "shelves\u00a01",
        ):
            self.refuses(NoRow, 0, read_house, otherwise(0, row))

    def test_rows_of_books(self):
        for row in (
            "", "q1", "1", "1 ", " 1 q1", "1  q1", "01 q1", "1 q1 ", "1 q", "1 q0", "1 Q1", "5 q1", "9 q1", "10 q1", "-1 q1", "x q1",
            "1 q1  k5", "shelves 1", "scheme", "rule ", " rule", "year late", "00 q1", "9" * 30 + " q1",
        ):
            self.refuses(NoRow, 1, read_house, otherwise(1, row))
        # The numbers of the shelves don't fall.
        for at, row in ((2, "0 q1 c.2"), (4, "2 q9"), (5, "0 q10"), (4, "1 q9")):
            self.refuses(NoRow, at, read_house, otherwise(at, row))
        self.assertEqual(len(read_house(otherwise(2, "2 q1 c.2"))[0]), 5)
        self.assertEqual(len(read_house(otherwise(5, "4 q10"))[0]), 5)

    def test_rows_of_the_rule_and_the_scheme(self):
        for row in ("", "year", "rule", " year late", "year late ", "year  late", "year late x", "1 q1 k5", "Scheme", "scheme "):
            self.refuses(NoRow, 8, read_house, otherwise(8, row))
        for row in ("", "two", "two q2", "two q2 q2.9 ", " two q2 q2.9", "two  q2 q2.9", "two q2 q2 q2", "scheme", "rule", "year late"):
            self.refuses(NoRow, 11, read_house, otherwise(11, row))

    def test_rows_that_are_missing(self):
        for many in range(10):
            # Over ahead of the row `scheme`.
            self.refuses(NoRow, many, read_house, text_of(*ROWS[:many]))
        for many in (10, 11, 12):
            self.assertEqual(len(read_house(text_of(*ROWS[:many]))[2]), many - 10)
        # Without the row `rule` the rows behind it are no books; without `scheme` the classes have a word too many.
        self.refuses(NoRow, 6, read_house, otherwise(6))
        self.refuses(NoRow, 9, read_house, otherwise(9))
        self.refuses(NoRow, 0, read_house, otherwise(0))
        self.refuses(NoRow, 0, read_house, "")

    def test_rows_once_more(self):
        for at, wrong in ((0, 1), (6, 7), (9, 10)):
            self.refuses(NoRow, wrong, read_house, otherwise(at, ROWS[at], ROWS[at]))

    def test_no_line_feed_at_the_end(self):
        for many in range(1, len(ROWS) + 1):
            text = text_of(*ROWS[:many])
            self.refuses(NoRow, many - 1, read_house, text[:-1])
        self.refuses(NoRow, len(ROWS), read_house, text_of(*ROWS) + "x q1 q2")
        self.refuses(NoRow, 0, read_house, "x")
        self.refuses(NoRow, 3, read_house, text_of(*ROWS[:3], "x") + "scheme")

    def test_one_sign_otherwise(self):
        text = text_of(*ROWS)
        told = 0
        for at in range(len(text)):
            for sign in "\n 012.aq":
                for other in (text[:at] + sign + text[at + 1:], text[:at] + sign + text[at:], text[:at] + text[at + 1:]):
                    try:
                        house = read_house(other)
                    except (NoRow, NoSize, NotRising, NoPart, NoWay, Twice, NoHead, NoName, Upside, Crossing):
                        continue
                    self.assertEqual(house_text(*house), other)
                    told += 1
        self.assertGreater(told, 50)


class Refusals(Case):
    def refuses_with(self, kind, thing, *rows):
        """That these rows are refused with a field that equals the thing."""
        with self.assertRaises(Exception) as caught:
            read_house(text_of(*rows))
        self.assertIs(type(caught.exception), kind)
        held = caught.exception.at if kind is NotRising else caught.exception.found
        self.assertEqual((type(held), held), (type(thing), thing))

    def test_refusals_of_shelves(self):
        rest = ("rule", "year late", "scheme")
        for size in (0, 7, 10, int("9" * 30), int("1" + "0" * 30)):
            self.refuses_with(NoSize, size, f"shelves 1 {size} 8", *rest)
        row = marks_of("q1", "q2")
        self.refuses_with(NoRow, row, "shelves 2 1", "1 q1", "1 q2", *rest)
        self.refuses_with(NoRow, row, "shelves 2 1", "0 q5", "0 q4", "1 q1", "1 q2", *rest)
        self.refuses_with(NotRising, 1, "shelves 2 1", "0 q2", "0 q1", *rest)
        self.refuses_with(NotRising, 2, "shelves 2 1 1", "0 q1", "0 q2", "2 q2", *rest)

    def test_refusals_of_rules_and_schemes(self):
        self.refuses_with(NoSteps, [], "shelves 1", "rule", "scheme")
        self.refuses_with(NoSteps, [("year", "late")] * 7, "shelves 1", "rule", *["year late"] * 7, "scheme", "a q q")
        self.refuses_with(NoPart, "late", "shelves 1", "rule", "late year", "scheme")
        self.refuses_with(NoWay, "whole", "shelves 1", "rule", "year whole", "scheme")
        self.refuses_with(Twice, "year", "shelves 1", "rule", "year late", "year late", "scheme")
        rest = ("shelves 1", "rule", "year late", "scheme")
        self.refuses_with(NoName, "A", *rest, "A q1 q2")
        self.refuses_with(Twice, "a", *rest, "a q1 q2", "a q3 q4")
        self.refuses_with(NoHead, "q", *rest, "a q q2")
        self.refuses_with(Upside, "a", *rest, "a q2 q1")
        self.refuses_with(Crossing, ("a", "b"), *rest, "a q1 q3", "b q2 q4")

    def test_their_order(self):
        bad = {"shelves": "shelves 0", "books": ["0 q2", "0 q1"], "rule": "year whole", "class": "a q2 q1"}
        self.refuses_with(NoSize, 0, "shelves 0", *bad["books"], "rule", bad["rule"], "scheme", bad["class"])
        self.refuses_with(NotRising, 1, "shelves 2", *bad["books"], "rule", bad["rule"], "scheme", bad["class"])
        self.refuses_with(NoWay, "whole", "shelves 2", "rule", bad["rule"], "scheme", bad["class"])
        self.refuses_with(Upside, "a", "shelves 2", "rule", "year late", "scheme", bad["class"])
        # Rows that are not as they must be are ahead of all these.
        self.refuses_with(NoRow, 5, "shelves 0", *bad["books"], "rule", bad["rule"], "x")
        self.refuses_with(NoRow, 5, "shelves 0", *bad["books"], "rule", bad["rule"])


if __name__ == "__main__":
    unittest.main()
