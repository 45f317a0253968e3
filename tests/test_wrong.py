"""Rows of texts with one wrong sign: points [64] to [66]."""

import itertools
import random
import unittest

from spinemarks.errors import NoKind, NoMark, NoRow, NoText, TooLong
from spinemarks.marks import Mark
from spinemarks.reading import read_mark
from spinemarks.slips import slipped
from spinemarks.wrong import bars, row_slips, standing
from tests.helper import NO_TEXTS, Case, compared, first_signs, is_mark, mark_of, slip_between
from tests.test_slips import KINDS, NO_KINDS, sources_by_trying

NO_ROWS = (
    None, True, False, 0, 2, "", "q1", "ab", [], (), ["q1"], ("q1",), ["q1"] * 13, ("q1",) * 13, [None] * 13, [7], {},
    {"q1": 1, "q2": 2}, Mark("q", 1),
)
# A row that rises, and rows with bars of each sort.
RISING = ["a1", "q9", "q76", "q76.49", "q76.5", "q76.5 k5", "q76.5 k52", "q76.5 k52 1998", "q76.5 k52 1998 c.2", "q77"]
LONG = "q1." + "5" * 37
ROWS = (
    ["q1", "q2"], ["q2", "q1"], ["q1", "q1"], ["q1", "q0"], ["q0", "q1"], ["q0", "q0"], ["q1", "q0", "q3"],
    ["q1", "q3", "q2"], ["q3", "q1", "q2"], ["q1", "q5", "q3", "q4"], ["q1", "q2", "q2", "q3"],
    ["q1", "x", "q2", "q1"], ["q9", "q76", "q8"],
    ["q1", "q1 k5", "q1 k5 1998", "q1 k5 c.2"], ["q1", "q1 c.2", "q1 c.1", "q1 c.3"], ["", "q1"], ["q1", ""], ["", ""],
    ["q1 k5", "q1 k.5", "q1 k6"], ["qa1", "q2", "qa3"], ["b1", "a1", "d1", "c1"], ["q76.49", "q76.5", "q76.409", "q77"],
    ["q5", "q4", "q3", "q2", "q1"], ["q1", "q3", "q2", "q4", "q3"], ["abc12345", "abd1"],
    ["q1", "q1 c.2", "q1 c.2", "q1 c.3"],
    RISING, RISING[::-1], [LONG[:-1] + "4", LONG[:-1] + "0", "q2"], ["q1", LONG[:-1] + " ", "q2"], ["~", "~", "~"],
)


def bars_by_hand(texts):
    found = []
    for number, text in enumerate(texts):
        if not is_mark(text):
            found.append(("text", number, first_signs(text)))
        elif number > 0 and is_mark(texts[number - 1]) and compared(texts[number - 1], text) >= 0:
            found.append(("order", number))
    return found


def rises(texts):
    return all(is_mark(text) for text in texts) and all(compared(*pair) < 0 for pair in itertools.pairwise(texts))


def slips_by_hand(texts, kind):
    """All slips, by putting each text of a mark near each text in its place."""
    if rises(texts):
        return []
    found = []
    for number, text in enumerate(texts):
        for other in sources_by_trying(text, kind):
            if rises([*texts[:number], other, *texts[number + 1:]]):
                found.append((number, other))
    return found


def most_by_trying(texts):
    """How many texts can stay, by trying all choices."""
    good = [number for number, text in enumerate(texts) if is_mark(text)]
    for many in range(len(good), -1, -1):
        for numbers in itertools.combinations(good, many):
            if rises([texts[number] for number in numbers]):
                return many
    return 0


def chance_rows():
    chance = random.Random(11)
    texts = ["q1", "q2", "q3", "q1.5", "q1.05", "q1 k5", "q1 c.2", "q1 c.3", "q9", "q10", "qa1", "a1", "q0", "", "zz9"]
    return [[chance.choice(texts) for _ in range(many)] for many in (2, 3, 4, 5, 6, 8, 10, 12) for _ in range(12)]


class Bars(Case):
    def test_rows(self):
        for texts in (*ROWS, *chance_rows()):
            told = bars(texts)
            self.assertEqual(told, bars_by_hand(texts), texts)
            self.assertIs(type(told), list)
            self.assertTrue(all(type(bar) is tuple for bar in told))
            self.assertEqual(bars(tuple(texts)), told)

    def test_rows_written_out(self):
        self.assertEqual(bars(RISING), [])
        self.assertEqual(bars(["q1", "q1"]), [("order", 1)])
        self.assertEqual(bars(["q2", "q1", "q0", "q1", "q1 "]), [("order", 1), ("text", 2, 1), ("text", 4, 3)])
        # Only the text straight ahead counts.
        self.assertEqual(bars(["q9", "q76.90", "q8"]), [("text", 1, 6)])
        self.assertEqual(bars(["q2", "q1", "q2"]), [("order", 1)])
        self.assertEqual(bars(["", "~"]), [("text", 0, 0), ("text", 1, 0)])
        self.assertEqual(bars(["q1"] * 12), [("order", number) for number in range(1, 12)])

    def test_the_number_of_reading(self):
        for text in ("q0", "q1.", "q1 c.1", "", "abcd1", "q1 k5 1998 1998"):
            with self.assertRaises(NoMark) as caught:
                read_mark(text)
            self.assertEqual(bars(["a1", text]), [("text", 1, caught.exception.at)])

    def test_two_and_twelve_texts_of_forty_signs(self):
        self.assertEqual(bars([LONG, "~" * 40]), [("text", 1, 0)])
        self.assertEqual(bars([LONG] + ["r%d" % number for number in range(1, 12)]), [])


class Refusals(Case):
    def test_no_rows(self):
        for thing in NO_ROWS:
            self.refuses(NoRow, thing, bars, thing)
            self.refuses(NoRow, thing, standing, thing)
            self.refuses(NoRow, thing, row_slips, thing)
            self.refuses(NoRow, thing, row_slips, thing, "none")

    def test_no_texts_and_long_ones_in_their_order(self):
        long = LONG + "5"
        self.assertEqual(len(long), 41)
        for question in (bars, standing, row_slips):
            for thing in NO_TEXTS:
                self.refuses(NoText, thing, question, ["q1", thing])
                self.refuses(NoText, thing, question, (thing, "q1", long))
                self.refuses(TooLong, long, question, ["q0", long, thing])
            for text in (long, "~" * 41, "q1" * 120):
                self.refuses(TooLong, text, question, ["q1", text, None])

    def test_no_kinds_behind_these(self):
        for thing in NO_KINDS:
            for texts in (["q1", "q2"], ["q1", "q0"], ["q2", "q1", "~"]):
                self.refuses(NoKind, thing, row_slips, texts, thing)
            self.refuses(NoText, None, row_slips, ["q1", None], thing)
            self.refuses(TooLong, "~" * 41, row_slips, ["q1", "~" * 41], thing)

    def test_nothing_is_changed(self):
        texts = ["q2", "q1", "q0"]
        for question in (bars, row_slips, standing):
            question(texts)
            self.assertEqual(texts, ["q2", "q1", "q0"])


class RowSlips(Case):
    def test_rows(self):
        for texts in (*ROWS, *chance_rows()[::3]):
            for kind in (*KINDS, None):
                told = row_slips(texts, kind)
                self.assertIs(type(told), list)
                self.assertTrue(all(type(slip) is tuple and isinstance(slip[1], Mark) for slip in told))
                written = [(number, str(mark)) for number, mark in told]
                self.assertEqual(written, slips_by_hand(texts, kind), (texts, kind))

    def test_rows_written_out(self):
        self.assertEqual(row_slips(["q1", "q0", "q3"]), [(1, mark_of("q2"))])
        self.assertEqual(row_slips(["q1", "q20", "q3"], "extra"), [(1, mark_of("q2"))])
        self.assertEqual(row_slips(("q1", "q31", "q14"), "turned"), [(1, mark_of("q13")), (2, mark_of("q41"))])
        self.assertEqual(row_slips(["q1", "q0", "q0"], None), [])
        self.assertEqual(row_slips(["q8", "q9", "q7"]), [(2, mark_of(f"{letter}7")) for letter in "rstuvwxyz"])
        told = row_slips(kind="lost", texts=["q1", "k5", "q1 k6"])
        self.assertEqual(told, [(0, mark_of(f"{letter}q1")) for letter in "abcdefghij"])

    def test_rows_without_bars(self):
        for kind in (*KINDS, None):
            self.assertEqual(row_slips(RISING, kind), [])
            self.assertEqual(row_slips(("a1", "a2"), kind), [])

    def test_the_mark_that_was_there(self):
        for number, text in enumerate(RISING):
            mark = mark_of(text)
            made = [("lost", slipped(mark, "lost", at)) for at in range(len(text))]
            made += [("extra", slipped(mark, "extra", at, "5")) for at in range(len(text) + 1)]
            made += [("other", slipped(mark, "other", at, "a")) for at in range(len(text)) if text[at] != "a"]
            made += [("turned", slipped(mark, "turned", at)) for at in range(len(text) - 1) if text[at] != text[at + 1]]
            for kind, other in made:
                self.assertEqual(slip_between(text, other), kind)
                texts = [*RISING[:number], other, *RISING[number + 1:]]
                for asked in (kind, None):
                    self.assertEqual((number, mark) in row_slips(texts, asked), bars(texts) != [], texts)

    def test_a_mark_of_forty_one_signs(self):
        text = LONG[:-1] + "0"
        told = row_slips(["q1", text, "q2"], "lost")
        self.assertIn((1, mark_of(text + "5")), told)
        self.assertEqual([(number, str(mark)) for number, mark in told], slips_by_hand(["q1", text, "q2"], "lost"))


class Standing(Case):
    def test_rows(self):
        for texts in (*ROWS, *chance_rows()):
            self.assert_stands(texts, standing(texts))
            self.assert_stands(texts, standing(tuple(texts)))

    def assert_stands(self, texts, told):
        self.assertIs(type(told), tuple)
        stay, lists = told
        self.assertTrue(all(type(part) is list for part in (stay, lists, *lists)))
        self.assertTrue(all(type(number) is int for part in (stay, *lists) for number in part))
        self.assertEqual(stay, sorted(set(stay)))
        self.assertTrue(rises([texts[number] for number in stay]), texts)
        self.assertEqual(len(stay), most_by_trying(texts), texts)
        self.assertEqual(len(lists), len(stay))
        self.assertEqual(sorted(itertools.chain(*lists)), [at for at, text in enumerate(texts) if is_mark(text)])
        for numbers in lists:
            self.assertTrue(numbers)
            self.assertEqual(numbers, sorted(numbers))
            for one, other in itertools.combinations(numbers, 2):
                self.assertGreaterEqual(compared(texts[one], texts[other]), 0, (texts, numbers))

    def test_rows_written_out(self):
        self.assertEqual(standing(["q1", "q2"]), ([0, 1], [[0], [1]]))
        self.assertEqual(standing(["q0", "q01"]), ([], []))
        self.assertEqual(standing(["q1", "q1", "q0"])[1], [[0, 1]])
        self.assertEqual(standing(["q5", "q1", "q2", "q9"])[0], [1, 2, 3])

    def test_new_lists(self):
        texts = ["q1", "q3", "q2"]
        stay, lists = standing(texts)
        stay.append(7)
        lists[0].append(7)
        lists.clear()
        self.assert_stands(texts, standing(texts))


if __name__ == "__main__":
    unittest.main()
