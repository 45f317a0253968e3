"""Slips, and the marks of whose texts a text can come by one: points [61] to [63]."""

import unittest

from spinemarks.errors import NoKind, NoPlace, NoText, TooLong
from spinemarks.marks import Mark
from spinemarks.slips import could_be, slip_kind, slipped
from tests.helper import (
    NO_TEXTS, SIGNS, TEXTS, Case, compared, is_mark, mark_of, mark_or_none, marred, put_in_order, slip_between,
    texts_told,
)

KINDS = ("other", "lost", "extra", "turned")
NO_KINDS = (
    True, False, 0, 1, "", "others", "Other", "lost ", "othe", [], ["other"], ("other",), {}, {"other": 1},
    Mark("q", 1),
)
NO_SIGNS = (None, True, False, 1, "", "ab", "12", ["a"], ("a",), {}, {"a": "a"}, Mark("q", 1))
NO_PLACES = (None, True, False, -1, -10 ** 29, 10 ** 29, "", "1", [], [1], (1,), {}, {1: 1}, Mark("q", 1))
# Texts near marks, and far from all.
NEAR_TEXTS = (
    "", "q", "1", "q1", "a1", "q76", "q67", "7q6", "q0", "q01", "q 1", "q1 ", " q1", "q1.", "q1.0", "q1.50", "q1..5",
    "q1.5", "q1 c2", "q1 c.2", "q1 c.1", "q1 c.12", "q1c.2", "q1 .c2", "q1  k5", "q1 k", "q1 5k", "q1 k5 1998",
    "q1 k5 1989", "q1 k5 998", "q1 k5 3998", "q1 k5 19980", "1q k5", "q12345", "abcd1", "abc12345", "Q1", "q1 K5",
    "q1-5", "q1\n", "q1\u00e9", "\u00e91",
    "qa76.9 k52 w61 y7 1998 c.12", "qa76.9 k52 w61 y7 z8 1998", "xx", "x1y1", "............",
)
STRETCHES = ((None, None), ("q1", None), (None, "q1"), ("b1", "r5"), ("q1", "q2"), ("q2", "q1"), ("q1", "q1"))


def sources_by_trying(text, kind):
    """The texts of all marks of which the text comes by a slip of the kind, by trying each sign at each place."""
    near = [other for other in set(marred(text, SIGNS)) if is_mark(other)]
    return put_in_order([other for other in near if slip_between(other, text) in ((kind,) if kind else KINDS)])


class SlipKind(Case):
    def test_all_texts_by_one_slip(self):
        for text in TEXTS[::2] + ("q11", "q1.11 k11 k11 1111 c.11"):
            for other in set(marred(text, SIGNS + "A\n\u00e9")):
                self.assertEqual(slip_kind(mark_of(text), other), slip_between(text, other), (text, other))

    def test_by_none_and_by_two(self):
        for text in TEXTS:
            self.assertIsNone(slip_kind(mark_of(text), text), text)
        for text in ("q1", "q11", "qa7.5"):
            for once in set(marred(text, " .1q")):
                for other in set(marred(once, " .1q")):
                    self.assertEqual(slip_kind(mark_of(text), other), slip_between(text, other), (text, other))

    def test_rows_written_out(self):
        for text, other, kind in (
            ("q76", "q77", "other"), ("q76", "x76", "other"), ("q76", "q7\u00e9", "other"), ("q76", "q7", "lost"),
            ("q76", "76", "lost"), ("q76", "q6", "lost"), ("q76", "q767", "extra"), ("q76", " q76", "extra"),
            ("q76", "q7 6", "extra"), ("q76", "q67", "turned"), ("q76", "7q6", "turned"), ("q76", "67q", None),
            ("q76", "", None),
            ("q76", "q", None), ("q76", "q7688", None), ("q76", "r77", None), ("q76", "6q7", None), ("q1", "", None),
            ("q1 k5 1998", "q1 k5 1989", "turned"), ("q1 k5 1998", "q1 k5 9198", "turned"),
            ("q1 k5 1998", "q1 k5 8991", None),
            ("q77", "q7", "lost"), ("q77", "q777", "extra"), ("q77", "q77", None), ("q1212", "q2121", None),
        ):
            self.assertEqual(slip_kind(mark_of(text), other), kind, (text, other))

    def test_long_texts(self):
        text = "q1." + "5" * 237
        self.assertEqual(slip_kind(mark_of(text), text[:-1]), "lost")
        self.assertEqual(slip_kind(mark_of(text), text[:-1] + "6"), "other")
        self.assertEqual(slip_kind(mark_of(text), "x" + text), "extra")
        self.assertEqual(slip_kind(mark_of(text), text[1] + text[0] + text[2:]), "turned")

    def test_no_texts(self):
        for thing in NO_TEXTS:
            self.refuses(NoText, thing, slip_kind, mark_of("q1"), thing)


class Slipped(Case):
    def test_each_kind_at_each_place(self):
        for text in ("q1", "q76", "qa76.9 k52 1998 c.12"):
            mark = mark_of(text)
            for at in range(len(text)):
                self.assertEqual(slipped(mark, "other", at, "~"), text[:at] + "~" + text[at + 1:])
                self.assertEqual(slipped(mark, "lost", at), text[:at] + text[at + 1:])
                self.assertEqual(slipped(mark, "extra", at, "~"), text[:at] + "~" + text[at:])
            self.assertEqual(slipped(mark, "extra", len(text), "~"), text + "~")
            for at in range(len(text) - 1):
                if text[at] != text[at + 1]:
                    self.assertEqual(slipped(mark, "turned", at), text[:at] + text[at + 1] + text[at] + text[at + 2:])

    def test_rows_written_out(self):
        mark = mark_of("q76")
        self.assertEqual([slipped(mark, "other", at, "x") for at in range(3)], ["x76", "qx6", "q7x"])
        self.assertEqual([slipped(mark, "lost", at) for at in range(3)], ["76", "q6", "q7"])
        self.assertEqual([slipped(mark, "extra", at, "7") for at in range(4)], ["7q76", "q776", "q776", "q767"])
        self.assertEqual([slipped(mark, "turned", at) for at in range(2)], ["7q6", "q67"])
        self.assertEqual(slipped(mark, "other", 0, "\n"), "\n76")
        self.assertEqual(slipped(mark, sign="\u00e9", at=1, kind="other"), "q\u00e96")

    def test_it_is_a_slip_of_that_kind(self):
        for text in TEXTS:
            mark = mark_of(text)
            for at in range(len(text)):
                self.assertEqual(slip_kind(mark, slipped(mark, "lost", at)), "lost")
                self.assertEqual(slip_kind(mark, slipped(mark, "extra", at, text[at])), "extra")
                self.assertEqual(slip_kind(mark, slipped(mark, "other", at, "~")), "other")

    def test_a_sign_that_is_not_looked_at(self):
        for thing in (*NO_SIGNS, "q", "7", "~"):
            self.assertEqual(slipped(mark_of("q76"), "lost", 1, thing), "q6")
            self.assertEqual(slipped(mark_of("q76"), "turned", 1, thing), "q67")

    def test_no_kinds(self):
        for thing in (*NO_KINDS, None):
            self.refuses(NoKind, thing, slipped, mark_of("q77"), thing, 1, "x")
            self.refuses(NoKind, thing, slipped, mark_of("q77"), thing, -1, None)

    def test_no_places(self):
        mark = mark_of("q77")
        for kind, last in (("other", 2), ("lost", 2), ("extra", 3), ("turned", 1)):
            for thing in (*NO_PLACES, last + 1, last + 2):
                self.refuses(NoPlace, thing, slipped, mark, kind, thing, "x")
                self.refuses(NoPlace, thing, slipped, mark, kind, thing, None)
        for kind in ("other", "extra"):
            for thing in NO_SIGNS:
                self.refuses(NoText, thing, slipped, mark, kind, 1, thing)
            self.refuses(NoText, "", slipped, mark, kind, 1)

    def test_alike_neighbours_and_the_sign_that_stands_there(self):
        mark = mark_of("q77")
        self.refuses(NoPlace, 1, slipped, mark, "turned", 1)
        self.refuses(NoPlace, 1, slipped, mark, "turned", 1, "x")
        self.assertEqual(slipped(mark, "turned", 0), "7q7")
        for at, sign in enumerate("q77"):
            self.refuses(NoText, sign, slipped, mark, "other", at, sign)
            self.assertEqual(len(slipped(mark, "extra", at, sign)), 4)


class CouldBe(Case):
    def test_against_trying_each_sign_at_each_place(self):
        for text in NEAR_TEXTS:
            for kind in (*KINDS, None):
                expected = sources_by_trying(text, kind)
                for low, high in STRETCHES:
                    there = [
                        other for other in expected
                        if (low is None or compared(low, other) < 0) and (high is None or compared(other, high) < 0)
                    ]
                    told = could_be(text, mark_or_none(low), mark_or_none(high), kind)
                    self.assertEqual(texts_told(told), there, (text, kind, low, high))

    def test_marks_that_are_low_or_high(self):
        told = could_be("q2", mark_of("o2"), mark_of("r2"))
        self.assertEqual(texts_told(told), ["p2", "q1", "q3", "q4", "q5", "q6", "q7", "q8", "q9"])
        told = could_be("q2", mark_of("p2"), mark_of("q9"))
        self.assertEqual(texts_told(told), ["q1", "q3", "q4", "q5", "q6", "q7", "q8"])
        self.assertEqual(could_be("q2", mark_of("q2"), mark_of("q3")), [])
        self.assertEqual(texts_told(could_be("q20", mark_of("q1"), mark_of("q3"), "extra")), ["q2"])
        self.assertEqual(could_be("q20", mark_of("q2"), None, "extra"), [])
        self.assertEqual(could_be("q20", None, mark_of("q2"), "extra"), [])

    def test_left_out_and_by_their_names(self):
        self.assertEqual(could_be("q0"), could_be("q0", None, None, "other"))
        self.assertEqual(texts_told(could_be("q0")), [f"q{figure}" for figure in range(1, 10)])
        self.assertEqual(texts_told(could_be(kind="turned", text="1q")), ["q1"])
        self.assertEqual(texts_told(could_be("q0", high=mark_of("q3"), low=mark_of("q1"))), ["q2"])
        self.assertEqual(texts_told(could_be("q11", kind="extra")), ["q1"])

    def test_the_mark_that_was_there(self):
        for text in TEXTS:
            for other in marred(text, "q1 ~")[::3]:
                if other != text and len(other) <= 40:
                    kind = slip_between(text, other)
                    self.assertIn(mark_of(text), could_be(other, kind=kind))
                    self.assertIn(mark_of(text), could_be(other, kind=None))

    def test_forty_signs_and_forty_one(self):
        text = "q1." + "5" * 37
        self.assertEqual(len(text), 40)
        for kind in (*KINDS, None):
            self.assertEqual(texts_told(could_be(text, kind=kind)), sources_by_trying(text, kind))
        self.assertIn(mark_of(text + "5"), could_be(text, kind="lost"))
        for long in (text + "5", text * 6, "~" * 41):
            for kind in (None, "other", "none", 7):
                self.refuses(TooLong, long, could_be, long, None, None, kind)

    def test_texts_without_signs(self):
        for kind in (*KINDS, None):
            self.assertEqual(could_be("", kind=kind), [])

    def test_refusals(self):
        for thing in NO_TEXTS:
            self.refuses(NoText, thing, could_be, thing)
            self.refuses(NoText, thing, could_be, thing, None, None, "none")
        for thing in NO_KINDS:
            for text in ("q1", "", "~" * 40):
                self.refuses(NoKind, thing, could_be, text, None, None, thing)

    def test_new_lists(self):
        told = could_be("q0")
        told.clear()
        self.assertEqual(len(could_be("q0")), 9)


if __name__ == "__main__":
    unittest.main()
