"""Marks shortened: points [71] to [74]."""

import itertools
import random
import unittest

from spinemarks.errors import Full, NoRow, NotRising, NotThere, There, TooLong
from spinemarks.marks import Mark
from spinemarks.short import Shorts, cuts_of
from tests.helper import (
    MARK, NO_TEXTS, TEXTS, Case, compared, is_mark, mark_of, marks_of, put_in_order, texts_told,
)

SHELF = ("q1", "q1.5 k5 1998", "q1.5 k52", "q1.5 k52 w6", "q2 c.2")
# Rows of marks that rise; the cuts of all of them can be tried.
ROWS = (
    (), ("q1",), ("q1.5 k5",), ("q76.12 k5", "q76.5 k52 1998", "q77"), ("q1", "q1 1998", "q1 1998 c.2", "q1 1998 c.3"),
    ("q1.5", "q1.52", "q1.53 k5"), ("q1 k52 w61", "q1 k53", "q1 k53 w7"), ("q1.501 c.2", "q1.502", "q1.503"),
    ("q1.5 k5 c.3", "q1.5 k5 1998 c.2", "q1.5 k51"), ("a1.05", "a1.05 k5", "a1.06", "a2.5"), SHELF,
    ("q1.9 1998", "q1.9 1999", "q1.91", "q1.92"), ("q1 c.2", "q1 c.3", "q1 c.4"), ("q1.11 k5", "q1.12", "q1.12 k5"),
    ("q1.2 k1", "q1.2 k2", "q1.2 k2 1998", "q1.21"), ("b1", "qa76 k5", "zzz9999.9"), ("q1 1998", "q1 a5", "q1 a5 b5"),
)
NO_ROWS = (
    None, True, False, 0, 7, "", "q1", {}, {"q1": 1}, ["q1"], [mark_of("q1"), "q2"], [None],
    [mark_of("q1"), [mark_of("q2")]], [mark_of("q1")] * 13, tuple(mark_of(f"a{number}") for number in range(1, 14)),
    [None] * 13, mark_of("q1"), ("q1",),
)
LONG = "q1.5 k5 w6 y7 1998 c.123"
LONGER = "q1.5 k5 w6 y7 1998 c.1234"


def cuts_by_hand(text):
    """The cuts of a mark, by taking signs from the ends of its parts."""
    letters, number, points, makers, year, copy = MARK.fullmatch(text).groups()
    heads = [letters + number] + [f"{letters}{number}.{points[:at]}" for at in range(1, len(points or "") + 1)]
    found = []
    for head, fewer in itertools.product(heads, [makers[:at] for at in range(len(makers) + 1)]):
        for dated in {"", f" {year}" if year else ""}:
            for told in {"", f" c.{copy}" if copy else ""}:
                # Where signs are left of what was a maker, it is no mark's text.
                if is_mark(head + fewer + dated + told) and is_mark(head + fewer):
                    found.append(head + fewer + dated + told)
    return put_in_order(found)


def rows_by_trying(texts):
    """All rows of cuts that rise."""
    rows = [()]
    for text in texts:
        cuts = cuts_by_hand(text)
        rows = [(*row, cut) for row in rows for cut in cuts if not row or compared(row[-1], cut) < 0]
    return rows


def signs_of(texts):
    return sum(len(text) for text in texts)


def paper_by_trying(texts):
    paper = []
    for many in range(1, len(texts) + 1):
        rows = rows_by_trying(texts[:many])
        needed = {}
        for cut in cuts_by_hand(texts[many - 1]):
            needed[cut] = min((signs_of(row) for row in rows if row[-1] == cut), default=None)
        paper.append(needed)
    return paper


def numbered(many):
    return [mark_of(f"q{number}") for number in range(1, many + 1)]


class Cuts(Case):
    def test_against_signs_taken_from_the_ends(self):
        for text in (*TEXTS, *itertools.chain(*ROWS), LONG):
            if len(text) <= 24:
                told = texts_told(cuts_of(mark_of(text)))
                self.assertEqual(told, cuts_by_hand(text), text)
                self.assertEqual(len(set(told)), len(told))
                self.assertEqual(told[-1], text)

    def test_rows_written_out(self):
        for text, cuts in (
            ("q76", ["q76"]), ("q76.5", ["q76", "q76.5"]), ("q76.501", ["q76", "q76.5", "q76.501"]),
            ("q76 k5", ["q76", "q76 k5"]), ("q76 k05", ["q76", "q76 k05"]), ("q76 k505", ["q76", "q76 k5", "q76 k505"]),
            ("q76 k5 w6", ["q76", "q76 k5", "q76 k5 w6"]), ("q76 1998", ["q76", "q76 1998"]),
            ("q76 c.2", ["q76", "q76 c.2"]),
            ("q76 1998 c.2", ["q76", "q76 c.2", "q76 1998", "q76 1998 c.2"]),
            ("q7.1 c1 2000", ["q7", "q7 2000", "q7 c1", "q7 c1 2000", "q7.1", "q7.1 2000", "q7.1 c1", "q7.1 c1 2000"]),
            ("q76 k12 w34", ["q76", "q76 k1", "q76 k12", "q76 k12 w3", "q76 k12 w34"]),
            ("q76 c.123", ["q76", "q76 c.123"]),
        ):
            self.assertEqual(texts_told(cuts_of(mark_of(text))), cuts)

    def test_twenty_four_and_twenty_five_signs(self):
        self.assertEqual((len(LONG), len(LONGER)), (24, 25))
        self.assertEqual(texts_told(cuts_of(mark_of(LONG))), cuts_by_hand(LONG))
        for text in (LONGER, "q1." + "5" * 22, "q1 c." + "9" * 200):
            mark = mark_of(text)
            self.refuses(TooLong, mark, cuts_of, mark)

    def test_new_lists(self):
        cuts_of(mark_of("q1.5")).clear()
        self.assertEqual(texts_told(cuts_of(mark_of("q1.5"))), ["q1", "q1.5"])


class Rows(Case):
    def test_against_trying_all_rows(self):
        for texts in ROWS:
            shorts = Shorts(marks_of(*texts))
            row = texts_told(shorts.row())
            rows = rows_by_trying(texts)
            self.assertIn(tuple(row), rows)
            self.assertEqual(signs_of(row), min(signs_of(other) for other in rows), texts)
            self.assertEqual(shorts.signs(), signs_of(row))
            self.assertIs(type(shorts.signs()), int)
            self.assertEqual(shorts.paper(), paper_by_trying(texts), texts)

    def test_against_trying_rows_by_chance(self):
        chance = random.Random(5)
        near = ("q1.52 k52 1998 c.2", "q1.53 k5 w61", "q1.5 a1 a2 c.7")
        texts = put_in_order({cut for text in near for cut in cuts_by_hand(text)})
        for _ in range(60):
            picked = put_in_order(chance.sample(texts, 4))
            shorts = Shorts(marks_of(*picked))
            rows = rows_by_trying(picked)
            self.assertIn(tuple(texts_told(shorts.row())), rows)
            self.assertEqual(shorts.signs(), min(signs_of(other) for other in rows), picked)
            self.assertEqual(shorts.paper(), paper_by_trying(picked))

    def test_the_cut_of_fewest_signs_will_not_do(self):
        # Of the second mark q1.5 has fewer signs, but then the third one must be kept whole.
        shorts = Shorts(marks_of("q1", "q1.5 k5", "q1.5 k6"))
        self.assertEqual(texts_told(shorts.row()), ["q1", "q1 k5", "q1.5"])
        self.assertEqual(shorts.signs(), 11)

    def test_rows_written_out(self):
        for texts, row in (
            ((), []), (("qa76.9 k52 w61 1998 c.2",), ["qa76"]), (("q1", "q2.5", "r3 k5"), ["q1", "q2", "r3"]),
            (("q1.5", "q1.52"), ["q1", "q1.5"]), (("q1", "q1 1998 c.2"), ["q1", "q1 c.2"]),
            (("q1 k5 w6", "q1 k5 w7"), ["q1", "q1 k5"]),
        ):
            self.assertEqual(texts_told(Shorts(marks_of(*texts)).row()), row)

    def test_twelve_marks_of_twenty_four_signs(self):
        texts = [f"q1.5555555{figure} k55 w66 1998" for figure in "123456789"]
        texts += [f"q1.55555559 k55 w66 {year}" for year in (1999, 2000, 2001)]
        shorts = Shorts(marks_of(*texts))
        self.assertEqual({len(text) for text in texts}, {24})
        row = texts_told(shorts.row())
        self.assertTrue(all(compared(*pair) < 0 for pair in itertools.pairwise(row)))
        self.assertTrue(all(cut in cuts_by_hand(text) for cut, text in zip(row, texts)))
        self.assertEqual(shorts.signs(), min(needed for needed in shorts.paper()[-1].values() if needed is not None))

    def test_where_no_list_ends_with_a_cut(self):
        paper = Shorts(marks_of("q1", "q1.5", "q1.52")).paper()
        self.assertEqual(paper, [{"q1": 2}, {"q1": None, "q1.5": 6}, {"q1": None, "q1.5": None, "q1.52": 11}])
        self.assertEqual(Shorts([]).paper(), [])


class Kept(Case):
    def test_what_they_tell(self):
        marks = marks_of(*SHELF)
        shorts = Shorts(tuple(marks))
        self.assertEqual(len(shorts), 5)
        self.assertEqual(shorts.marks(), marks)
        row = shorts.row()
        for number, (mark, short) in enumerate(zip(marks, row)):
            self.assertEqual(shorts.short_of(mark_of(str(mark))), short)
            self.assertEqual(shorts.meant(str(short)), number)
            self.assertIs(type(shorts.meant(str(short))), int)
        self.assertEqual((len(Shorts([])), Shorts([]).marks(), Shorts([]).row(), Shorts([]).signs()), (0, [], [], 0))

    def test_the_row_stays_until_a_deed(self):
        shorts = Shorts(marks_of(*SHELF))
        row = shorts.row()
        for _ in range(3):
            self.assertEqual(shorts.row(), row)
        self.assertEqual(Shorts(marks_of(*SHELF)).row(), row)

    def test_meant(self):
        shorts = Shorts(marks_of(*SHELF))
        row = texts_told(shorts.row())
        for thing in (*NO_TEXTS, *shorts.marks(), shorts, [row[0]], (row[0],), "", "~", "q9", *SHELF):
            if thing not in row:
                self.assertIsNone(shorts.meant(thing), thing)
        self.assertIsNone(Shorts([]).meant(""))
        self.assertIsNone(Shorts([]).meant(None))

    def test_what_is_not_kept(self):
        shorts = Shorts(marks_of(*SHELF))
        for text in ("q1.5", "a1", "zz9", "q1 c.2", LONGER, "q1." + "5" * 200):
            mark = mark_of(text)
            self.refuses(NotThere, mark, shorts.short_of, mark)
            self.refuses(NotThere, mark, shorts.take, mark)
            self.refuses(NotThere, mark, Shorts([]).short_of, mark)
        self.assertEqual(shorts.marks(), marks_of(*SHELF))

    def test_made_of_no_rows(self):
        for thing in NO_ROWS:
            self.refuses(NoRow, thing, Shorts, thing)

    def test_made_of_long_marks_and_of_marks_that_do_not_rise(self):
        long = mark_of(LONGER)
        self.refuses(TooLong, long, Shorts, [long])
        self.refuses(TooLong, long, Shorts, marks_of("q2", "q1") + [long, mark_of("q1." + "5" * 30)])
        rows = ((1, "q1", "q1"), (1, "q2", "q1"), (3, "q1", "q2", "q3", "q3"), (2, "q1", "q3", "q2", "q1"))
        for at, *texts in rows:
            self.refuses(NotRising, at, Shorts, marks_of(*texts))
        things = [long, None]
        self.refuses(NoRow, things, Shorts, things)

    def test_put_and_take(self):
        chance = random.Random(3)
        shorts = Shorts([])
        held = []
        texts = [text for text in TEXTS if len(text) <= 24]
        for _ in range(80):
            text = chance.choice(texts)
            if text in held:
                self.assertIsNone(shorts.take(mark_of(text)))
                held.remove(text)
            elif len(held) < 12:
                self.assertIsNone(shorts.put(mark_of(text)))
                held = put_in_order([*held, text])
            fresh = Shorts(marks_of(*held))
            self.assertEqual(texts_told(shorts.marks()), held)
            self.assertEqual(len(shorts), len(held))
            self.assertEqual(shorts.row(), fresh.row())
            self.assertEqual(shorts.signs(), fresh.signs())
            self.assertEqual(shorts.paper(), fresh.paper())

    def test_put_first_and_last(self):
        shorts = Shorts(marks_of("q5"))
        for text in ("q9", "q1", "q7"):
            shorts.put(mark_of(text))
        self.assertEqual(texts_told(shorts.marks()), ["q1", "q5", "q7", "q9"])
        for text in ("q1", "q9", "q7", "q5"):
            shorts.take(mark_of(text))
        self.assertEqual((shorts.marks(), shorts.row(), shorts.paper()), ([], [], []))

    def test_put_makes_room_in_the_row(self):
        shorts = Shorts(marks_of("q1.5", "q2"))
        self.assertEqual(texts_told(shorts.row()), ["q1", "q2"])
        shorts.put(mark_of("q1.4"))
        self.assertEqual(texts_told(shorts.row()), ["q1", "q1.5", "q2"])
        shorts.take(mark_of("q1.4"))
        self.assertEqual(texts_told(shorts.row()), ["q1", "q2"])

    def test_refusals_of_put(self):
        shorts = Shorts(numbered(12))
        before = (shorts.marks(), shorts.row(), shorts.paper())
        long, there, new = mark_of(LONGER), mark_of("q7"), mark_of("q7.5")
        self.refuses(TooLong, long, shorts.put, long)
        self.refuses(There, there, shorts.put, there)
        self.refuses(Full, 12, shorts.put, new)
        self.assertEqual((shorts.marks(), shorts.row(), shorts.paper()), before)
        self.refuses(There, there, Shorts(numbered(11)).put, there)
        shorts.take(mark_of("q12"))
        self.assertIsNone(shorts.put(new))

    def test_lists_that_were_handed_in_and_told(self):
        marks = marks_of(*SHELF)
        shorts = Shorts(marks)
        expected = Shorts(marks_of(*SHELF))
        marks.reverse()
        marks.clear()
        shorts.marks().clear()
        shorts.row().reverse()
        paper = shorts.paper()
        paper[0].clear()
        paper[1]["q1"] = 7
        paper.pop()
        self.assertEqual(shorts.marks(), expected.marks())
        self.assertEqual(shorts.row(), expected.row())
        self.assertEqual(shorts.paper(), expected.paper())
        self.assertEqual(shorts.signs(), expected.signs())

    def test_two_of_them_have_nothing_in_common(self):
        one, other = Shorts(marks_of(*SHELF)), Shorts(marks_of(*SHELF))
        one.take(mark_of("q1"))
        one.put(mark_of("q1.1"))
        self.assertEqual(other.marks(), marks_of(*SHELF))
        self.assertEqual(other.row(), Shorts(marks_of(*SHELF)).row())

    def test_numbers_of_signs(self):
        for needed in Shorts(marks_of(*SHELF)).paper():
            self.assertIs(type(needed), dict)
            self.assertTrue(all(type(text) is str for text in needed))
            self.assertTrue(all(number is None or type(number) is int for number in needed.values()))


if __name__ == "__main__":
    unittest.main()
