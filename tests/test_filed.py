"""Marks filed as texts: point [36]."""

import itertools
import re
import unittest

from spinemarks.errors import NoText
from spinemarks.filed import filed, unfiled
from spinemarks.marks import Mark
from tests.helper import NO_TEXTS, TEXTS, Case, compared, mark_of, marred

ROWS = {
    "q1": "q  0001 000000",
    "a9999": "a  9999 000000",
    "qa76": "qa 0076 000000",
    "zzz9999": "zzz9999 000000",
    "qa76.9": "qa 00769 000000",
    "qa76.09": "qa 007609 000000",
    "qa76 k52": "qa 0076 k52 000000",
    "qa76 k52 w61": "qa 0076 k52 w61 000000",
    "qa76 c1 c1 c1": "qa 0076 c1 c1 c1 000000",
    "qa76 1998": "qa 0076 199800",
    "qa76 c.2": "qa 0076 0000012",
    "qa76 c.10": "qa 0076 00000210",
    "qa76 1000 c.999": "qa 0076 100003999",
    "qa76.9 k52 w61 1998 c.2": "qa 00769 k52 w61 1998012",
    "q7 c." + "7" * 9: "q  0007 000009" + "7" * 9,
    "q7 c." + "7" * 10: "q  0007 000010" + "7" * 10,
    "q7 c." + "1" + "0" * 29: "q  0007 0000301" + "0" * 29,
    "q7 2999 c." + "9" * 99: "q  0007 299999" + "9" * 99,
}
FILED = re.compile(
    r"(?:[a-z]{3}|[a-z]{2} |[a-z]  )(?!0000)[0-9]{4}(?:[0-9]*[1-9])? (?:[a-z][0-9]*[1-9] ){0,3}"
    r"(?:0000|[12][0-9]{3})(?:00|(?!00)([0-9]{2})([1-9][0-9]*))"
)
MARRING = " .0123459abcdxz\nA\u0661"


def is_filed(text):
    """Whether some mark is filed so."""
    found = FILED.fullmatch(text)
    if found is None or found[1] is None:
        return found is not None
    return len(found[2]) == int(found[1]) and found[2] != "1"


class Filed(unittest.TestCase):
    def test_texts_written_out(self):
        for text, row in ROWS.items():
            self.assertEqual(filed(mark_of(text)), row)

    def test_they_are_read_back(self):
        for text in TEXTS + tuple(ROWS):
            mark = unfiled(filed(mark_of(text)))
            self.assertEqual(mark.parts(), mark_of(text).parts())

    def test_they_compare_as_the_marks_do(self):
        for one, other in itertools.product(TEXTS + tuple(ROWS), repeat=2):
            first, second = filed(mark_of(one)), filed(mark_of(other))
            self.assertEqual((first > second) - (first < second), compared(one, other), (one, other))

    def test_all_filed_texts_of_the_tests_are_some(self):
        for text in TEXTS + tuple(ROWS):
            self.assertTrue(is_filed(filed(mark_of(text))))


class Unfiled(Case):
    def test_marred_texts(self):
        for row in ROWS.values():
            for text in marred(row[:40], MARRING) + marred(row, "0a "):
                if is_filed(text):
                    self.assertEqual(filed(unfiled(text)), text)
                else:
                    self.refuses(NoText, text, unfiled, text)

    def test_beginnings(self):
        for row in ROWS.values():
            for text in [row[:many] for many in range(len(row))]:
                if not is_filed(text):
                    self.refuses(NoText, text, unfiled, text)

    def test_what_is_filed_by_none(self):
        for text in (
            "", " ", "q1", "q1 k5", "qa76.9", "   0001 000000", " q 0001 000000", "q a0001 000000", "q 0001 000000",
            "abcd0001 000000", "Q  0001 000000", "q  0000 000000", "q  001 000000", "q  00001 000000", "q  0001000000",
            "q  000150 000000", "q  0001.5 000000", "q  0001  000000", "q  0001 k5000000", "q  0001 k50 000000",
            "q  0001 a1 a1 a1 a1 000000", "q  0001 099900", "q  0001 300000", "q  0001 000100", "q  0001 000000 ",
            "q  0001 0000", "q  0001 00000", "q  0001 0000001", "q  0001 0000011", "q  0001 0000010",
            "q  0001 000001", "q  0001 00000102", "q  0001 00000112", "q  0001 0000022", "q  0001 0000002",
            "q  0001 00001 2", "q  0001 00000202", "q  0001 000000\n", "q  0001 0000012\n", "\nq  0001 000000",
            "q  0001 +99800", "q  0001 1_9800", "q  0+01 000000", "q  0_01 000000", "q   001 000000", "q  0001 0000+12",
            "q  \u0660\u0660\u0660\u0661 000000", "q  0001 00000\u06612", "q  0001 000001\u0662",
        ):
            self.refuses(NoText, text, unfiled, text)

    def test_a_copy_of_more_figures_than_can_be_filed(self):
        for figures in ("1" * 100, "0" + "1" * 100, "1" * 990):
            for count in ("99", "10", "00", "01", str(len(figures))):
                text = "q  0001 0000" + count + figures
                self.refuses(NoText, text, unfiled, text)

    def test_things_that_are_no_texts(self):
        for thing in NO_TEXTS + (Mark("q", 1),):
            self.refuses(NoText, thing, unfiled, thing)


if __name__ == "__main__":
    unittest.main()
