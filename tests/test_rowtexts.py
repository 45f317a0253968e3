"""Whole texts, and marks written so: points [111] to [113]."""

import random
import unittest

from spinemarks.errors import NoRow, NoText
from spinemarks.marks import Mark
from spinemarks.rowtexts import marks_text, packed_text, read_marks, read_packed, rows_of, whole_text
from tests.helper import NO_TEXTS, TEXTS, Case, is_mark, mark_of, marks_of, put_in_order, texts_told

SIGNS = "\n" + "".join(chr(code) for code in range(32, 127) if code != 37)
READERS = (rows_of, read_marks, read_packed)


def lists_by_chance(many, seed):
    """Lists of texts of marks, in order or not, some of them several times."""
    chance = random.Random(seed)
    for _ in range(many):
        texts = chance.choices(TEXTS, k=chance.randint(0, 12))
        yield put_in_order(texts) if chance.random() < 0.5 else texts


def packed_by_hand(texts):
    rows = []
    for number, text in enumerate(texts):
        many = 0
        while number > 0 and texts[number - 1].startswith(text[:many + 1]) and many < len(text):
            many += 1
        rows.append(f"{many} {text[many:]}\n")
    return "".join(rows)


def one_sign_otherwise(text):
    """All texts in which one sign of the text is another one, gone, or one more."""
    for at in range(len(text) + 1):
        for sign in "\n 019.akz":
            yield text[:at] + sign + text[at:]
            yield text[:at] + sign + text[at + 1:]
        yield text[:at] + text[at + 1:]


class Rows(Case):
    def test_rows_there_and_back(self):
        for rows in ([], [""], ["", ""], ["a"], ["a", "", "b"], [" ", "a b", "  "], [SIGNS[1:]], ["x" * 240], ["q1"] * 160):
            text = whole_text(rows)
            self.assertEqual((type(text), text), (str, "".join(row + "\n" for row in rows)))
            self.assertEqual(whole_text(tuple(rows)), text)
            told = rows_of(text)
            self.assertEqual((type(told), told), (list, rows))
            told.append("x")
            self.assertEqual(rows_of(text), rows)

    def test_more_rows_and_longer_ones_are_not_refused(self):
        rows = ["q1"] * 170 + ["x" * 250]
        self.assertEqual(rows_of(whole_text(rows)), rows)
        self.assertEqual(len(read_marks(whole_text(["q1"] * 170))), 170)

    def test_no_text(self):
        for reader in READERS:
            for thing in (*NO_TEXTS, ["q1\n"]):
                self.refuses(NoText, thing, reader, thing)

    def test_no_line_feed_at_the_end(self):
        for text, at in (("a", 0), ("a\nb", 1), ("\n ", 1), ("\n\n\nx", 3), ("a\n" * 159 + "b", 159), (" ", 0)):
            self.refuses(NoRow, at, rows_of, text)
        for text, at in (("q1", 0), ("q1\nq2", 1), ("q1\nq2\nq", 2), ("q1\nq", 1), ("q\nq2", 0), ("q1\n\nq2", 1)):
            self.refuses(NoRow, at, read_marks, text)
        for text, at in (("0 q1", 0), ("0 q1\n1 2", 1), ("0 q1\n1 ", 1), ("0 q\n1 2", 0)):
            self.refuses(NoRow, at, read_packed, text)

    def test_other_ends_of_rows_are_signs(self):
        self.assertEqual(rows_of("a\rb\x0bc\u2028\n"), ["a\rb\x0bc\u2028"])


class Marks(Case):
    def test_marks_there_and_back(self):
        for texts in (*lists_by_chance(60, 29), [], ["q1"] * 100, list(TEXTS)):
            text = marks_text(marks_of(*texts))
            self.assertEqual((type(text), text), (str, "".join(held + "\n" for held in texts)))
            self.assertEqual(texts_told(read_marks(text)), texts)
            self.assertEqual(marks_text(tuple(marks_of(*texts))), text)

    def test_one_sign_otherwise(self):
        for text in one_sign_otherwise("q76.9 k5\na1\nq1 1998 c.2\n"):
            rows = text.split("\n")
            wrong = [at for at, row in enumerate(rows[:-1]) if not is_mark(row)]
            if rows[-1] != "":
                wrong.append(len(rows) - 1)
            if wrong:
                self.refuses(NoRow, wrong[0], read_marks, text)
            else:
                self.assertEqual(texts_told(read_marks(text)), rows[:-1])

    def test_what_is_handed_in_stays(self):
        marks = marks_of("q2", "q1")
        for writer in (marks_text, packed_text):
            writer(marks)
        self.assertEqual(marks, marks_of("q2", "q1"))


class Packed(Case):
    def test_marks_there_and_back(self):
        for texts in (*lists_by_chance(60, 30), [], ["q1"] * 100, list(TEXTS), put_in_order(TEXTS)):
            text = packed_text(marks_of(*texts))
            self.assertEqual((type(text), text), (str, packed_by_hand(texts)))
            self.assertEqual(texts_told(read_packed(text)), texts)
            self.assertEqual(packed_text(tuple(marks_of(*texts))), text)

    def test_the_example(self):
        text = packed_text(marks_of("qa76 k5", "qa76 k52", "qa9"))
        self.assertEqual(text, "0 qa76 k5\n7 2\n2 9\n")
        self.assertEqual(read_packed(text), marks_of("qa76 k5", "qa76 k52", "qa9"))
        self.assertEqual(packed_text(marks_of("q1", "q1", "q1 c.2", "q1")), "0 q1\n2 \n2  c.2\n2 \n")

    def test_one_sign_otherwise(self):
        told = 0
        for text in one_sign_otherwise("0 q76.9 k5\n8 2\n8 2\n3 9\n4 \n0 a1\n"):
            try:
                marks = read_packed(text)
            except NoRow as refusal:
                self.assertLess(refusal.found, len(text.split("\n")))
                continue
            # What is read has just this packed text.
            self.assertEqual(packed_by_hand(texts_told(marks)), text)
            told += 1
        self.assertGreater(told, 10)

    def test_rows_that_are_not_told_so(self):
        for rows, at in (
            # A number one too small or too great, though the mark is the same, or with a 0 ahead.
            ("0 qa76 k5/6 52", 1), ("0 qa76 k5/8 2", 1), ("0 qa76 k5/07 2", 1), ("0 qa76 k5/0 qa76 k52", 1),
            ("0 qa76 k5/7 2/2 9", None), ("0 qa76 k5/7 2/3 ", None), ("0 qa76 k5/7 2/1 a9", 2), ("0 qa76 k5/7 2/9 9", 2),
            ("00 q1", 0), ("1 q1", 0), ("0 q1/2", 1), ("0 q1/2 ", None), ("0 q1/3 ", 1), ("0 q1/1 1", 1), ("0 q1/1 2", None),
            ("0 q1/0 q2", 1), ("0 q1/-1 2", 1), ("0 q1/1  2", 1), ("0 q1/ 1 2", 1), ("0 q1/x 2", 1), ("0 q1/ ", 1), ("0 q1/", 1),
            ("0", 0), ("0 ", 0), ("", 0), (" q1", 0), ("q1", 0), ("0 q", 0), ("0 q1/1 0", 1), ("0 q1/1", 1), ("0 q10/2 ", None),
            ("0 q10/1 1", 1), ("0 q1/" + "9" * 200 + " 2", 1), ("0 q1/+1 2", 1), ("0 q1/1_ 2", 1), ("0 q1/\u0661 2", 1),
        ):
            text = "".join(row + "\n" for row in rows.split("/"))
            if at is None:
                self.assertEqual(packed_by_hand(texts_told(read_packed(text))), text)
            else:
                self.refuses(NoRow, at, read_packed, text)

    def test_marks_that_go_on_behind_each_other(self):
        self.assertEqual(read_packed("0 q1\n2  k5\n5 \n"), [mark_of("q1"), Mark("q", 1, "", ["k5"]), mark_of("q1 k5")])


if __name__ == "__main__":
    unittest.main()
