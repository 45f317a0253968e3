"""Rules and schemes as texts: points [114] to [116]."""

import itertools
import random
import unittest

from spinemarks.classes import Scheme
from spinemarks.errors import (
    Crossing, NoClasses, NoHead, NoName, NoPart, NoRow, NoSteps, NoText, NoWay, Twice, Upside,
)
from spinemarks.rules import Rule
from spinemarks.ruletexts import outline, read_outline, read_rule, read_scheme, rule_text, scheme_text
from tests.helper import NO_TEXTS, Case
from tests.test_classes import ROWS
from tests.test_concord import schemes_by_chance
from tests.test_rules import rules_by_chance

READERS = (read_rule, read_scheme, read_outline)
WORDS = {read_rule: 2, read_scheme: 3, read_outline: 4}


def text_of(*rows):
    return "".join(row + "\n" for row in rows)


class Texts(Case):
    def refuses_with(self, kind, thing, reader, *rows):
        """That the reader refuses these rows with a field that equals the thing."""
        with self.assertRaises(Exception) as caught:
            reader(text_of(*rows))
        self.assertIs(type(caught.exception), kind)
        self.assertEqual(caught.exception.found, thing)


class Rows(Texts):
    def test_no_text(self):
        for reader in READERS:
            for thing in NO_TEXTS:
                self.refuses(NoText, thing, reader, thing)

    def test_rows_of_a_wrong_number_of_words(self):
        good = {read_rule: "year late", read_scheme: "a q1 q2", read_outline: "0 a q1 q2"}
        for reader in READERS:
            row = good[reader]
            words = row.split(" ")
            for bad in (
                "", " ", words[0], " ".join(words[1:]), row + " x", " " + row, row + " ", row.replace(" ", "  ", 1),
                "  ".join(words), " " * WORDS[reader],
            ):
                self.refuses(NoRow, 0, reader, text_of(bad))
                self.refuses(NoRow, 1, reader, text_of(row, bad))
                # A row is looked at ahead of what the rows are.
                self.refuses(NoRow, 2, reader, text_of(row, row, bad, bad))
            self.refuses(NoRow, 0, reader, row)
            self.refuses(NoRow, 1, reader, text_of(row) + row)
            self.refuses(NoRow, 2, reader, text_of(row, row) + " ")


class Rules(Texts):
    def test_rules_there_and_back(self):
        for steps in rules_by_chance(60, 31):
            rule = Rule(steps)
            text = rule_text(rule)
            self.assertEqual((type(text), text), (str, text_of(*[f"{part} {way}" for part, way in steps])))
            self.assertEqual(read_rule(text), rule)
            self.assertEqual(read_rule(text).steps(), steps)

    def test_refusals_of_a_rule(self):
        self.refuses_with(NoSteps, [], read_rule)
        for many in (7, 13, 160):
            self.refuses_with(NoSteps, [("year", "late")] * many, read_rule, *["year late"] * many)
        self.refuses_with(NoPart, "Year", read_rule, "Year late")
        self.refuses_with(NoPart, "%", read_rule, "year late", "% late")
        self.refuses_with(NoWay, "decimal", read_rule, "year decimal")
        self.refuses_with(NoWay, "late", read_rule, "points late", "copy late", "part x")
        self.refuses_with(Twice, "year", read_rule, "year late", "copy rising", "year rising", "x y")
        self.refuses_with(NoPart, "late", read_rule, "late year")


class Schemes(Texts):
    def test_schemes_there_and_back(self):
        for rows in (*schemes_by_chance(), ROWS, []):
            scheme = Scheme(rows)
            text = scheme_text(scheme)
            self.assertEqual((type(text), text), (str, text_of(*[" ".join(row) for row in rows])))
            told = read_scheme(text)
            self.assertEqual(told, scheme)
            self.assertEqual(told.rows(), list(rows))

    def test_refusals_of_a_scheme(self):
        for reader, ahead in ((read_scheme, ""), (read_outline, "0 ")):
            rows = [f"{ahead}{letter} {letter}1 {letter}2" for letter in "abcdefghijklm"]
            found = [tuple(row.split(" ")[-3:]) for row in rows]
            self.refuses_with(NoClasses, found, reader, *rows)
            self.assertEqual(len(read_scheme(text_of(*[row[len(ahead):] for row in rows[:12]]))), 12)
            self.refuses_with(NoName, "A", reader, f"{ahead}A q1 q2")
            self.refuses_with(NoName, "abcdefg", reader, f"{ahead}a q1 q2", f"{ahead}abcdefg x y", f"{ahead}b z1 y1")
            self.refuses_with(Twice, "a", reader, f"{ahead}a q1 q2", f"{ahead}a x y")
            self.refuses_with(NoHead, "q0", reader, f"{ahead}a q0 q")
            self.refuses_with(NoHead, "q", reader, f"{ahead}a q1 q", f"{ahead}B q1 q2")
            self.refuses_with(Upside, "a", reader, f"{ahead}a q2 q1")
            self.refuses_with(Crossing, ("a", "b"), reader, f"{ahead}a q1 q5", f"{ahead}b q3 q7", f"{ahead}c r1 r2")
            self.refuses_with(Crossing, ("a", "b"), reader, f"{ahead}a q1 q5", f"{ahead}b q1 q5.99")


class Outlines(Texts):
    def test_outlines_there_and_back(self):
        for rows in (*schemes_by_chance(), ROWS, []):
            text = outline(Scheme(rows))
            self.assertIs(type(text), str)
            told = read_outline(text)
            self.assertEqual(told, Scheme(rows))
            self.assertEqual(told.rows(), [tuple(row.split(" ")[1:]) for row in text.splitlines()])
            self.assertEqual(outline(told), text)

    def test_two_schemes_have_one_outline_just_where_they_are_equal(self):
        rows = schemes_by_chance()[:20]
        rows += [list(reversed(one)) for one in rows[:8]] + [one[1:] for one in rows[:4]] + [[]]
        equal = 0
        for one, other in itertools.product(rows, repeat=2):
            same = Scheme(one) == Scheme(other)
            self.assertEqual(outline(Scheme(one)) == outline(Scheme(other)), same)
            equal += same
        self.assertGreater(equal, len(rows))

    def test_rows_written_out(self):
        rows = [
            ("part", "q76.5", "q76.599"), ("wide", "q1", "q99.9"), ("apart", "z1", "zzz9999"), ("first", "q1", "q1"),
            ("same", "q76", "q76.9"), ("later", "q9", "q10.0999"),
        ]
        expected = text_of(
            "0 wide q1 q99", "1 first q1 q1", "1 later q9 q10.09", "1 same q76 q76", "2 part q76.5 q76.5", "0 apart z1 zzz9999"
        )
        self.assertEqual(outline(Scheme(rows)), expected)
        self.assertEqual(outline(Scheme([])), "")
        self.assertEqual(read_outline(""), Scheme([]))

    def test_the_first_row_that_differs(self):
        rows = ["0 wide q1 q99", "1 first q1 q1", "1 later q9 q10.09", "2 inner q10.05 q10.05", "0 apart z1 zzz9999"]
        self.assertEqual(read_outline(text_of(*rows)).names(), ["wide", "first", "later", "inner", "apart"])
        for at, bad in (
            (0, "1 wide q1 q99"), (0, "00 wide q1 q99"), (1, "0 first q1 q1"), (1, "2 first q1 q1"), (1, "01 first q1 q1"),
            (1, "x first q1 q1"), (3, "1 inner q10.05 q10.05"), (0, "0 wide q1 q99.9"), (1, "1 first q1 q1.99"),
            (2, "1 later q9 q10.0999"), (4, "0 apart z1 zzz9999.9"), (3, "2 inner q10.05 q10.0599"),
        ):
            self.refuses(NoRow, at, read_outline, text_of(*rows[:at], bad, *rows[at + 1:]))
        for one, other in itertools.combinations(range(len(rows)), 2):
            turned = list(rows)
            turned[one], turned[other] = rows[other], rows[one]
            self.refuses(NoRow, one, read_outline, text_of(*turned))
        # Taken out, the wide one leaves wrong counts behind.
        self.refuses(NoRow, 0, read_outline, text_of(*rows[1:]))
        self.refuses(NoRow, 2, read_outline, text_of(*rows[:2], rows[3], rows[4]))
        self.assertEqual(len(read_outline(text_of(*rows[:4]))), 4)

    def test_refusals_of_the_scheme_are_ahead_of_rows_that_differ(self):
        self.refuses_with(Upside, "b", read_outline, "7 a q1 q2", "0 b q5 q4")
        self.refuses_with(NoHead, "q", read_outline, "x a q q2")
        self.refuses(NoRow, 0, read_outline, text_of("7 a q1 q2", "0 b q5 q6"))
        self.refuses(NoRow, 1, read_outline, text_of("7 a q1 q2", "0 b q5"))

    def test_outlines_with_one_sign_otherwise(self):
        chance = random.Random(32)
        for rows in schemes_by_chance()[:20]:
            text = outline(Scheme(rows))
            for at in chance.sample(range(len(text)), min(12, len(text))):
                other = text[:at] + chance.choice("\n 019.aq") + text[at + 1:]
                try:
                    told = read_outline(other)
                except (NoRow, NoName, NoHead, Upside, Twice, Crossing, NoClasses):
                    continue
                self.assertEqual(outline(told), other)


if __name__ == "__main__":
    unittest.main()
