"""Classes and schemes held against each other: points [87] to [89]."""

import itertools
import unittest

from spinemarks.classes import Scheme
from spinemarks.concord import against, classed_apart, related, stretches
from spinemarks.errors import NotThere
from spinemarks.marks import Mark
from tests.helper import Case, Shelf, compared, mark_of, put_in_order, texts_of, texts_of_at_most_three
from tests.test_classes import (
    HEADS, MARKS, NO_NAMES, ROWS, holds_by_hand, is_apart_by_hand, is_within_by_hand, schemes_by_chance, span_by_hand,
    upside_by_hand,
)

# Heads of classes that differ by marks of few signs.
SHORT = ("a1", "b5", "q1", "q1.5", "q2", "q9", "q20", "q9999", "qa1", "zz9", "zzz9999")
SIDES = ((True, False), (True, True), (False, True))


def classes_of(heads):
    """The heads of all classes of two of these heads."""
    return [pair for pair in itertools.product(heads, repeat=2) if not upside_by_hand(("a", *pair))]


def scheme_of(name, heads):
    return Scheme([(name, *heads)])


def related_by_hand(one, other):
    first, second = span_by_hand(*one), span_by_hand(*other)
    if first == second:
        return "same"
    if is_within_by_hand(first, second):
        return "within"
    if is_within_by_hand(second, first):
        return "round"
    return "apart" if is_apart_by_hand(first, second) else "crossing"


def sides_by_hand(one, other):
    """Whether there are marks that the first class alone holds, that both hold, and that the second alone holds."""
    word = related_by_hand(one, other)
    return (word in ("round", "apart", "crossing"), word != "apart", word in ("within", "apart", "crossing"))


def chain_by_hand(rows, text):
    """The names of the classes that hold a mark, each that is within another one behind it."""
    held = [(name, span_by_hand(*heads)) for name, *heads in rows if holds_by_hand(*heads, text)]
    rounds = {name: len([other for _, other in held if is_within_by_hand(span, other)]) for name, span in held}
    return sorted(rounds, key=rounds.get)


class Against(Case):
    def assert_against_all(self, shelf, most, classes):
        """Of all pairs of these classes, where the shelf has all marks of at most so many signs that they hold."""
        held = {}
        for heads in classes:
            first, behind = span_by_hand(*heads)
            held[heads] = set(shelf.stretch(first, behind, True))
        for one, other in itertools.product(classes, repeat=2):
            told = against(scheme_of("a", one), "a", scheme_of("b", other), "b")
            self.assertIs(type(told), tuple)
            self.assertEqual(tuple(mark is not None for mark in told), sides_by_hand(one, other), (one, other))
            tried = (held[one] - held[other], held[one] & held[other], held[other] - held[one])
            for mark, texts, side in zip(told, tried, SIDES):
                if mark is not None:
                    self.assertIsInstance(mark, Mark)
                    self.assertEqual((holds_by_hand(*one, str(mark)), holds_by_hand(*other, str(mark))), side)
                if texts:
                    fewest = min(len(text) for text in texts)
                    self.assertEqual(str(mark), put_in_order([text for text in texts if len(text) == fewest])[0])
                elif mark is not None:
                    self.assertGreater(len(mark), most, (one, other))

    def test_against_all_marks_of_few_signs(self):
        self.assert_against_all(Shelf(texts_of_at_most_three()), 3, classes_of(SHORT)[::3])

    def test_against_all_marks_of_one_letter_and_number(self):
        heads = [head for head in HEADS if head.startswith("q1.")]
        self.assert_against_all(Shelf(texts_of("q1", 6)), 6, classes_of(heads))

    def test_rows_written_out(self):
        for one, other, word, texts in (
            (("q1", "q5"), ("q1", "q5"), "same", (None, "q1", None)),
            (("q1", "q5"), ("q1", "q5.99"), "same", (None, "q1", None)),
            (("q2", "q3"), ("q1", "q5"), "within", (None, "q2", "q1")),
            (("q1", "q5"), ("q2", "q3"), "round", ("q1", "q2", None)),
            (("q1", "q5"), ("q1", "q3"), "round", ("q4", "q1", None)),
            (("q1", "q2"), ("q3", "q4"), "apart", ("q1", None, "q3")),
            (("q3", "q4"), ("q1", "q2"), "apart", ("q3", None, "q1")),
            (("q1", "q3"), ("q3", "q5"), "crossing", ("q1", "q3", "q4")),
            (("q3", "q5"), ("q1", "q3"), "crossing", ("q4", "q3", "q1")),
            (("q1", "q3"), ("q3.5", "q3.5"), "round", ("q1", "q3.5", None)),
            (("q1.5", "q1.58"), ("q1.5", "q1.5"), "within", (None, "q1.5", "q1.59")),
            (("q1.5", "zzz9999"), ("q1", "zzz9999"), "within", (None, "q2", "q1")),
            (("a1", "zzz9999"), ("q1", "q1"), "round", ("a1", "q1", None)),
            (("q1", "q10"), ("q1.5", "q9"), "round", ("q1", "q2", None)),
            (("q10", "q12"), ("q11", "q11"), "round", ("q10", "q11", None)),
        ):
            first, second = scheme_of("a", one), scheme_of("b", other)
            self.assertEqual(related(first, "a", second, "b"), word)
            told = against(first, "a", second, "b")
            self.assertEqual(tuple(None if mark is None else str(mark) for mark in told), texts, (one, other))

    def test_classes_of_one_scheme(self):
        scheme = Scheme(ROWS)
        for (one, *first), (other, *second) in itertools.product(ROWS, repeat=2):
            word = related_by_hand(first, second)
            self.assertEqual(related(scheme, one, scheme, other), word, (one, other))
            self.assertEqual(word == "same", one == other)
            told = against(scheme, one, scheme, other)
            self.assertEqual(tuple(mark is not None for mark in told), sides_by_hand(first, second))

    def test_not_there(self):
        one, other = scheme_of("a", ("q1", "q5")), scheme_of("b", ("q1", "q5"))
        for thing in (*NO_NAMES, "c", "ab"):
            for question in (against, related):
                self.refuses(NotThere, thing, question, one, thing, other, "b")
                self.refuses(NotThere, thing, question, one, thing, other, ["c"])
                self.refuses(NotThere, thing, question, one, "a", other, thing)
        for question in (against, related):
            self.refuses(NotThere, "b", question, one, "b", other, "a")
            self.refuses(NotThere, "a", question, one, "a", other, "a")


class Related(Case):
    def test_all_pairs_of_classes(self):
        words = {"same": 0, "within": 0, "round": 0, "apart": 0, "crossing": 0}
        for one, other in itertools.product(classes_of(HEADS), repeat=2):
            word = related_by_hand(one, other)
            self.assertEqual(related(scheme_of("a", one), "a", scheme_of("a", other), "a"), word, (one, other))
            words[word] += 1
        self.assertGreater(min(words.values()), 50)


class Schemes(Case):
    def pairs(self):
        rows = schemes_by_chance()[:24]
        found = list(zip(rows, rows[1:])) + [(one, one[::-1]) for one in rows[:4]] + [(one, []) for one in rows[:4]]
        found += [(one, one[1:]) for one in rows[:4]] + [([], [])]
        return found + [(one, [("zz", *one[0][1:]), *one[1:]]) for one in rows[:4]]

    def test_stretches(self):
        for one, other in self.pairs():
            told = stretches(Scheme(one), Scheme(other))
            self.assertIs(type(told), list)
            self.assertTrue(all(type(row) is tuple and len(row) == 3 for row in told))
            self.assertEqual(str(told[0][0]), "a1")
            texts = [str(row[0]) for row in told]
            self.assertTrue(all(compared(*pair) < 0 for pair in itertools.pairwise(texts)))
            self.assertTrue(all(first[1:] != second[1:] for first, second in itertools.pairwise(told)))
            for text in {*MARKS, *texts, *[text + " c.2" for text in texts]}:
                row = [row for row in told if compared(str(row[0]), text) <= 0][-1]
                self.assertEqual(row[1:], (chain_by_hand(one, text), chain_by_hand(other, text)), (one, other, text))

    def test_stretches_written_out(self):
        one = Scheme([("a", "q1", "q5"), ("b", "q2", "q2")])
        other = Scheme([("b", "q2", "q2.9"), ("c", "q2.5", "q2.5")])
        rows = [
            ("a1", [], []), ("q1", ["a"], []), ("q2", ["a", "b"], ["b"]), ("q2.5", ["a", "b"], ["b", "c"]),
            ("q2.6", ["a", "b"], ["b"]), ("q3", ["a"], []), ("q6", [], []),
        ]
        self.assertEqual(stretches(one, other), [(mark_of(text), *names) for text, *names in rows])
        rows = [(mark_of("a1"), ["a"], []), (mark_of("zzz9999"), [], [])]
        self.assertEqual(stretches(Scheme([("a", "a1", "zzz9998")]), Scheme([])), rows)
        rows = [(mark_of("a1"), [], ["a"])]
        self.assertEqual(stretches(Scheme([]), Scheme([("a", "a1", "zzz9999")])), rows)

    def test_schemes_without_classes(self):
        self.assertEqual(stretches(Scheme([]), Scheme([])), [(mark_of("a1"), [], [])])
        self.assertIsNone(classed_apart(Scheme([]), Scheme([])))

    def test_new_lists(self):
        scheme = Scheme(ROWS)
        expected = stretches(Scheme(ROWS), Scheme(ROWS))
        told = stretches(scheme, scheme)
        for _, names, others in told:
            self.assertIsNot(names, others)
            names.append("x")
            others.clear()
        told.clear()
        self.assertEqual(stretches(scheme, scheme), expected)

    def test_classed_apart_and_equal(self):
        for one, other in self.pairs():
            told = classed_apart(Scheme(one), Scheme(other))
            self.assertEqual(told is None, Scheme(one) == Scheme(other), (one, other))
            if told is not None:
                self.assertIsInstance(told, Mark)
                self.assertNotEqual(Scheme(one).chain(told), Scheme(other).chain(told))

    def test_classed_apart_against_all_marks_of_few_signs(self):
        shelf = Shelf(texts_of_at_most_three())
        for one, other in self.pairs()[::2]:
            first, second = Scheme(one), Scheme(other)
            told = classed_apart(first, second)
            if told is None:
                continue
            fewer = [text for text in shelf.texts if len(text) <= len(told) and text[0] in "apqrz"]
            apart = [text for text in fewer if first.chain(mark_of(text)) != second.chain(mark_of(text))]
            if len(told) <= 3:
                self.assertEqual(str(told), min(apart, key=len))
            else:
                self.assertEqual(apart, [])

    def test_classed_apart_against_all_marks_of_one_letter_and_number(self):
        shelf = Shelf(texts_of("q1", 5))
        heads = [head for head in HEADS if head.startswith("q1.")]
        for one, other in itertools.product(classes_of(heads)[::2], repeat=2):
            first, second = scheme_of("a", one), scheme_of("a", other)
            apart = [text for text in shelf.texts if holds_by_hand(*one, text) != holds_by_hand(*other, text)]
            told = classed_apart(first, second)
            if apart:
                self.assertEqual(str(told), min(apart, key=len), (one, other))
            else:
                self.assertTrue(told is None or len(told) > 5, (one, other))

    def test_classed_apart_written_out(self):
        for one, other, text in (
            ([("a", "q1", "q5")], [("a", "q1", "q5")], None), ([("a", "q1", "q5")], [("a", "q1", "q5.9")], None),
            ([("a", "q1", "q5")], [("b", "q1", "q5")], "q1"), ([("a", "q1", "q5")], [], "q1"),
            ([("a", "q1", "q5")], [("a", "q1", "q6")], "q6"), ([("a", "q1", "q5")], [("a", "q1.5", "q5")], "q1"),
            ([("a", "q1", "q5.8")], [("a", "q1", "q5")], "q5.9"), ([], [("a", "a1", "zzz9999")], "a1"),
            ([("a", "q76", "q76.5")], [("a", "q76", "q80")], "q77"),
            ([("a", "q1", "q5"), ("b", "r1", "r1")], [("a", "q1", "q5")], "r1"),
            ([("a", "q1", "q5"), ("b", "q2", "q3")], [("b", "q1", "q5"), ("a", "q2", "q3")], "q1"),
            ([("a", "q76.5", "r5")], [("a", "q76.4", "r4")], "r5"), ([("a", "q10", "r5")], [("a", "q11", "r4")], "r5"),
            ([("a", "q10", "r1"), ("b", "z1", "z2")], [("a", "q11", "r1"), ("b", "z1", "z20")], "z3"),
        ):
            told = classed_apart(Scheme(one), Scheme(other))
            self.assertEqual(None if told is None else str(told), text, (one, other))
            self.assertEqual(classed_apart(Scheme(other), Scheme(one)), told)


if __name__ == "__main__":
    unittest.main()
