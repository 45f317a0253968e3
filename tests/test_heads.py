"""Heads, and what is behind all marks under one: points [81] and [82]."""

import itertools
import unittest

from spinemarks.errors import NoHead
from spinemarks.heads import behind_head, head_of, least_head
from spinemarks.marks import Mark
from tests.helper import (
    NO_TEXTS, SIGNS, TEXTS, Case, Shelf, compared, figure_texts, is_mark, mark_of, marred, parts_of, texts_of,
)

HEADS = (
    "a1", "q76", "q9999", "qa76.9", "qa76.09", "zzz9999", "a1.0001", "zz9999.9", "q76.7", "q76.09", "q76.99", "a9999",
    "azz9999", "q1." + "9" * 40, "q1." + "0" * 39 + "1", "q1.5" + "9" * 39,
)
NO_HEADS = (
    "", "q", "76", "q0", "q07", "q76.", "q76.0", "q76.70", "q76 ", " q76", "q76 k5", "q76 1998", "q76 c.2", "Q76",
    "q76\n", "abcd1", "q12345", "q76.7 k5 1998 c.2", "q76,7", "\u00e476", "q\u0667",
)


def is_under(text, head):
    """Whether the head of a text lies under another head, by the words of the point."""
    letters, number, points, _, _, _ = parts_of(text)
    other_letters, other_number, other_points, _, _, _ = parts_of(head)
    return (letters, number) == (other_letters, other_number) and points.startswith(other_points)


def all_letters():
    return sorted("".join(row) for many in (1, 2, 3) for row in itertools.product(SIGNS[12:], repeat=many))


class HeadOf(Case):
    def test_heads_of_each_form(self):
        for text in HEADS:
            head = head_of(text)
            self.assertIsInstance(head, Mark)
            self.assertEqual(head.parts(), parts_of(text))
            self.assertEqual(str(head), text)

    def test_marks_and_their_heads(self):
        for text in TEXTS:
            head = str(mark_of(text).head())
            self.assertEqual(head_of(head), mark_of(text).head())
            if head != text:
                self.refuses(NoHead, text, head_of, text)

    def test_what_is_no_text_of_a_head(self):
        for question in (head_of, behind_head, least_head):
            for thing in (*NO_TEXTS, *NO_HEADS):
                self.refuses(NoHead, thing, question, thing)

    def test_texts_near_heads(self):
        for text in ("q76", "qa7.09"):
            for other in set(marred(text, SIGNS)):
                if is_mark(other) and " " not in other:
                    self.assertEqual(head_of(other), mark_of(other))
                else:
                    self.refuses(NoHead, other, head_of, other)


class BehindHead(Case):
    def test_rows_written_out(self):
        for text, behind in (
            ("q76.7", "q76.8"), ("q76.09", "q76.1"), ("q76.99", "q77"), ("q76", "q77"), ("a9999", "aa1"),
            ("azz9999", "b1"), ("zzz9999", None), ("zzz9999.9", None), ("zzz9999.8", "zzz9999.9"), ("z9999", "za1"),
            ("zz9999", "zza1"), ("zyz9999", "zz1"), ("zaz9999", "zb1"), ("abc9999.99", "abd1"), ("q9", "q10"),
            ("q99.9", "q100"), ("q9998", "q9999"), ("q76.199", "q76.2"), ("q76.0099", "q76.01"), ("q76.901", "q76.902"),
            ("q76.19", "q76.2"), ("q76." + "9" * 40, "q77"), ("q76.4" + "9" * 39, "q76.5"), ("yzz9999.9", "z1"),
            ("q76." + "0" * 39 + "9", "q76." + "0" * 38 + "1"), ("q76." + "1" * 40, "q76." + "1" * 39 + "2"),
        ):
            told = behind_head(text)
            self.assertEqual(told, None if behind is None else mark_of(behind), text)
            self.assertEqual(None if told is None else str(told), behind)

    def test_against_all_marks_of_one_letter_and_number(self):
        texts = texts_of("q1", 5) + ["q1.009", "q1.099", "q1.109", "q1.999", "q1.599", "q1.5 k5"]
        shelf = Shelf(texts)
        for head in [text for text in texts if " " not in text]:
            place = max(at for at, text in enumerate(shelf.texts) if is_under(text, head))
            behind = shelf.texts[place + 1] if place + 1 < len(shelf.texts) else "q2"
            self.assertEqual(str(behind_head(head)), behind, head)
            for text in shelf.texts[::5]:
                inside = compared(head, text) <= 0 and compared(text, behind) < 0
                self.assertEqual(is_under(text, head), inside, (text, head))

    def test_against_all_letters(self):
        letters = all_letters()
        for one, other in itertools.pairwise(letters):
            self.assertEqual(str(behind_head(one + "9999")), other + "1")
        self.assertIsNone(behind_head(letters[-1] + "9999"))

    def test_all_numbers(self):
        for number in range(1, 9999):
            self.assertEqual(behind_head(f"q{number}").parts(), ("q", number + 1, "", (), None, None))


class LeastHead(Case):
    def test_rows_written_out(self):
        for text, least in (
            ("q76.7", "q76.7"), ("q76.799", "q76.7"), ("q76.99", "q76"), ("q76.0999", "q76.09"), ("q76", "q76"),
            ("q76.9", "q76"), ("q76.09", "q76.09"), ("q76.509", "q76.509"), ("q76.5099", "q76.509"),
            ("q76.59", "q76.5"),
            ("q76.95", "q76.95"), ("q76.9959", "q76.995"), ("zzz9999.99", "zzz9999"), ("zzz9999", "zzz9999"),
            ("a9999.9", "a9999"), ("q76." + "9" * 40, "q76"), ("q76.4" + "9" * 39, "q76.4"), ("q76.00099", "q76.0009"),
            ("q76." + "0" * 39 + "9", "q76." + "0" * 39 + "9"),
            ("q76." + "0" * 10 + "9" * 30, "q76." + "0" * 10 + "9"),
        ):
            self.assertEqual(least_head(text), least)
            self.assertEqual(behind_head(least), behind_head(text))

    def test_against_all_heads_of_which_the_same_is_told(self):
        points = ["", *("." + text for text in figure_texts(4))]
        heads = [start + text for start in ("q1", "q2", "zzz9999") for text in points]
        alike = {}
        for head in heads:
            alike.setdefault(str(behind_head(head)), []).append(head)
        for told in alike.values():
            fewest = min(len(head) for head in told)
            least, = [head for head in told if len(head) == fewest]
            for head in told:
                self.assertEqual(least_head(head), least)

    def test_its_own_least(self):
        for text in HEADS:
            self.assertEqual(least_head(least_head(text)), least_head(text))


if __name__ == "__main__":
    unittest.main()
