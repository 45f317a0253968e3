"""Schemes and their classes: points [83] to [86]."""

import itertools
import random
import unittest

from spinemarks.classes import Scheme
from spinemarks.errors import Crossing, NoClass, NoClasses, NoHead, NoName, NotThere, Twice, Upside
from spinemarks.heads import behind_head
from spinemarks.marks import Mark
from tests.helper import NO_TEXTS, Case, compared, mark_of, parts_of, put_in_order, texts_of_at_most_three
from tests.test_heads import NO_HEADS, is_under

NO_NAMES = (
    None, True, False, 0, "", "abcdefg", "A", "a1", "a b", "a ", "\u00e4", ["a"], ("a",), {}, {"a": 1}, Mark("a", 1),
)
NO_LISTS = (None, True, False, 0, 7, "", "abc", {}, {"a": ("a", "q1", "q2")}, Mark("a", 1))
NO_CLASSES = (
    None, True, 0, "", "abc", [], ["a", "q1", "q2"], (), ("a",), ("a", "q1"), ("a", "q1", "q2", "q3"), {}, Mark("a", 1),
    {"a": 1, "b": 2, "c": 3},
)
# A scheme with classes side by side and within one another, not in the order of their marks.
ROWS = [
    ("inner", "q76.5", "q76.59"), ("wide", "q1", "q99"), ("high", "q100.5", "qc9999"), ("first", "a1", "b5.5"),
    ("middle", "q76", "q76"), ("low", "q9", "q75.99"), ("last", "r1", "zzz9999"), ("least", "q76.55", "q76.55"),
    ("other", "q76.6", "q76.65"), ("start", "q1", "q5"),
]
# Heads near each other, from which classes are made by chance.
HEADS = (
    "a1", "q1", "q1.05", "q1.09", "q1.1", "q1.5", "q1.55", "q1.59", "q1.6", "q1.9", "q2", "q2.5", "q9", "q9999", "qa1",
)
MARKS = (
    "a1", "q1", "q1 k5", "q1 1998", "q1 c.2", "q1.04", "q1.05", "q1.05 k5 1998 c.2", "q1.09", "q1.099", "q1.0999 z9",
    "q1.1", "q1.1 a1", "q1.4", "q1.5", "q1.5 k5", "q1.549", "q1.55", "q1.559 z9 z9 z9 2999 c.99", "q1.56", "q1.59",
    "q1.599", "q1.6", "q1.65", "q1.9", "q1.99 z9", "q2", "q2 1000", "q2.5", "q2.59", "q2.6", "q3", "q9", "q9.9", "q10",
    "q9998", "q9999", "q9999.9 z9", "qa1", "qa1.5", "qa2", "zzz9999", "zzz9999.9",
)


def holds_by_hand(first, last, text):
    """Whether a class holds a mark, by the words of the point."""
    head = str(mark_of(text).head())
    if compared(head, first) < 0:
        return False
    return compared(head, last) < 0 or is_under(head, last)


def span_by_hand(first, last):
    behind = behind_head(last)
    return (first, None if behind is None else str(behind))


def is_within_by_hand(one, other):
    """Whether all marks of a span are in another one."""
    if compared(one[0], other[0]) < 0:
        return False
    return other[1] is None or (one[1] is not None and compared(one[1], other[1]) <= 0)


def is_apart_by_hand(one, other):
    return any(
        first[1] is not None and compared(first[1], second[0]) <= 0 for first, second in ((one, other), (other, one))
    )


def crossing_by_hand(rows):
    """The first pair of names that cross, or None."""
    spans = [span_by_hand(*row[1:]) for row in rows]
    for later in range(len(rows)):
        for elder in range(later):
            one, other = spans[elder], spans[later]
            if one == other:
                return (rows[elder][0], rows[later][0])
            if not (is_apart_by_hand(one, other) or is_within_by_hand(one, other) or is_within_by_hand(other, one)):
                return (rows[elder][0], rows[later][0])
    return None


def upside_by_hand(row):
    _, first, last = row
    return compared(last, first) < 0 and not is_under(first, last)


def rows_by_chance(chance, many):
    names = chance.sample("abcdefghijkl", many)
    return [(name, chance.choice(HEADS), chance.choice(HEADS)) for name in names]


def schemes_by_chance():
    """Rows of classes that are schemes, of up to six classes."""
    chance = random.Random(2)
    found = []
    while len(found) < 60:
        rows = []
        for row in rows_by_chance(chance, 6):
            if not upside_by_hand(row) and crossing_by_hand([*rows, row]) is None:
                rows.append(row)
        found.append(rows)
    return found


class Refusals(Case):
    def refuses_crossing(self, names, rows):
        with self.assertRaises(Crossing) as caught:
            Scheme(rows)
        self.assertIs(type(caught.exception.found), tuple)
        self.assertEqual(caught.exception.found, names)

    def test_no_lists(self):
        rows = [("abcdefghijklm"[at], f"q{at + 1}", f"q{at + 1}") for at in range(13)]
        for thing in (*NO_LISTS, rows, tuple(rows), [None] * 13):
            self.refuses(NoClasses, thing, Scheme, thing)
        self.assertEqual(len(Scheme(rows[:12])), 12)
        self.assertEqual(len(Scheme(tuple(rows[:12]))), 12)
        self.assertEqual(len(Scheme([])), 0)
        self.assertEqual(len(Scheme(())), 0)

    def test_no_classes(self):
        for thing in NO_CLASSES:
            self.refuses(NoClass, thing, Scheme, [thing])
            self.refuses(NoClass, thing, Scheme, [("a", "q1", "q2"), thing, ("A", None, None)])

    def test_no_names(self):
        for thing in NO_NAMES:
            row = (thing, None, "q0")
            self.refuses(NoName, thing, Scheme, [row])
            self.refuses(NoName, thing, Scheme, [("a", "q1", "q1"), row, ["b"]])

    def test_names_that_are_there_twice(self):
        self.refuses(Twice, "a", Scheme, [("a", "q1", "q1"), ("a", "q3", "q3")])
        self.refuses(Twice, "b", Scheme, [("a", "q1", "q1"), ("b", "q2", "q2"), ("b", None, "q0"), ("a", "q1", "q1")])
        self.refuses(Twice, "a", Scheme, [("a", "q1", "q1"), ("b", "q2", "q2"), ("a", "q1", "q1"), ("b", "q1", "q1")])

    def test_no_heads(self):
        for thing in (*NO_TEXTS, *NO_HEADS):
            self.refuses(NoHead, thing, Scheme, [("a", thing, "q1")])
            self.refuses(NoHead, thing, Scheme, [("a", "q1", thing)])
            self.refuses(NoHead, thing, Scheme, [("a", thing, "q0")])
            self.refuses(NoHead, "q0", Scheme, [("a", "q0", thing)])

    def test_upside(self):
        for first, last in (
            ("q2", "q1"), ("q1.5", "q1.49"), ("q1.5", "q1.4"), ("qa1", "q9999"), ("q10", "q9"), ("b1", "azz9999"),
        ):
            self.refuses(Upside, "name", Scheme, [("name", first, last)])
            self.refuses(Upside, "name", Scheme, [("a", "q1", "q1"), ("name", first, last), ("a", "q1", "q1")])
        for first, last in (("q1.5", "q1"), ("q1.55", "q1.5"), ("q1", "q1"), ("q1.9", "q1.9"), ("q1.99", "q1.9")):
            self.assertEqual(len(Scheme([("a", first, last)])), 1)

    def test_each_class_wholly_ahead_of_the_next(self):
        self.refuses(Upside, "a", Scheme, [("a", "q2", "q1"), None])
        self.refuses(NoHead, "q0", Scheme, [("a", "q1", "q0"), ("a", "q1", "q1")])
        self.refuses(NoClass, None, Scheme, [("a", "q1", "q5"), ("b", "q3", "q7"), None])
        self.refuses(Upside, "c", Scheme, [("a", "q1", "q5"), ("b", "q3", "q7"), ("c", "q2", "q1")])

    def test_crossing(self):
        for names, rows in (
            (("a", "b"), [("a", "q1", "q5"), ("b", "q3", "q7")]),
            (("b", "a"), [("b", "q3", "q7"), ("a", "q1", "q5")]),
            (("a", "b"), [("a", "q1", "q5"), ("b", "q5", "q7")]),
            (("a", "b"), [("a", "q1", "q5"), ("b", "q5.9", "q7")]),
            (("a", "b"), [("a", "q1", "q5"), ("b", "q1", "q5")]),
            (("a", "b"), [("a", "q1", "q5"), ("b", "q1", "q5.9")]),
            (("a", "b"), [("a", "q1.5", "q1.59"), ("b", "q1.5", "q1.5")]),
            (("a", "b"), [("a", "q1", "q1.99"), ("b", "q1", "q1")]),
            (("b", "c"), [("a", "q1", "q1"), ("b", "q3", "q5"), ("c", "q4", "q6"), ("d", "q1", "q1")]),
            (("a", "c"), [("a", "q1", "q5"), ("b", "q6", "q8"), ("c", "q4", "q7"), ("d", "q1", "q5")]),
            (("b", "c"), [("a", "q9", "q9"), ("b", "q1", "q5"), ("c", "q3", "q7"), ("d", "q9", "q9")]),
            (("a", "b"), [("a", "zzz9998", "zzz9999"), ("b", "zzz9998", "zzz9999.9")]),
            (("a", "b"), [("a", "zzz5", "zzz9999"), ("b", "a1", "zzz9998")]),
        ):
            self.refuses_crossing(names, rows)
            self.refuses_crossing(names, tuple(rows))

    def test_classes_that_touch(self):
        for rows in (
            [("a", "q1", "q5"), ("b", "q6", "q7")], [("b", "q6", "q7"), ("a", "q1", "q5.9")],
            [("a", "q1", "q1.4"), ("b", "q1.5", "q1.5")], [("a", "q1", "q5"), ("b", "q1", "q4.9")],
            [("a", "q1", "q5"), ("b", "q2", "q5")], [("a", "q2", "q5"), ("b", "q1", "q5.99")],
            [("a", "zzz9999", "zzz9999"), ("b", "zzz9998", "zzz9999.9")],
            [("a", "a1", "zzz9999"), ("b", "a1", "zzz9998")],
        ):
            self.assertEqual(Scheme(rows).rows(), rows)

    def test_rows_by_chance(self):
        chance = random.Random(1)
        kinds = {"upside": 0, "crossing": 0, "none": 0}
        for _ in range(600):
            rows = rows_by_chance(chance, chance.randrange(1, 5))
            upside = [row[0] for row in rows if upside_by_hand(row)]
            if upside:
                self.refuses(Upside, upside[0], Scheme, rows)
                kinds["upside"] += 1
                continue
            names = crossing_by_hand(rows)
            if names is not None:
                self.refuses_crossing(names, rows)
                kinds["crossing"] += 1
            else:
                self.assertEqual(Scheme(rows).rows(), rows)
                kinds["none"] += 1
        self.assertGreater(min(kinds.values()), 30)

    def test_twelve_classes_each_within_the_one_ahead(self):
        rows = [("abcdefghijkl"[at], f"q{at + 1}", f"q{99 - at}") for at in range(12)]
        scheme = Scheme(rows)
        self.assertEqual(scheme.chain(mark_of("q50")), list("abcdefghijkl"))
        self.assertEqual(scheme.around("l"), list("abcdefghijk"))
        self.assertEqual(Scheme(rows[::-1]).chain(mark_of("q50")), list("abcdefghijkl"))
        self.refuses_crossing(("d", "l"), [*rows[:11], ("l", "q50", "q97")])


class Told(Case):
    def test_names_and_rows(self):
        scheme = Scheme(ROWS)
        self.assertEqual(scheme.names(), [row[0] for row in ROWS])
        self.assertEqual(scheme.rows(), ROWS)
        self.assertEqual(len(scheme), 10)
        self.assertTrue(all(type(row) is tuple for row in scheme.rows()))
        self.assertEqual((Scheme([]).names(), Scheme([]).rows()), ([], []))

    def test_lists_that_were_handed_in_and_told(self):
        rows = list(ROWS)
        scheme = Scheme(rows)
        rows.clear()
        scheme.names().clear()
        scheme.rows().reverse()
        scheme.chain(mark_of("q76")).clear()
        scheme.around("inner").clear()
        scheme.inside().clear()
        self.assertEqual(scheme.names(), [row[0] for row in ROWS])
        self.assertEqual(scheme.rows(), ROWS)
        self.assertEqual(scheme, Scheme(ROWS))
        self.assertEqual(scheme.chain(mark_of("q76")), ["wide", "middle"])
        self.assertEqual(scheme.around("inner"), ["wide", "middle"])
        self.assertEqual(scheme.inside(), ["first", "wide", "high", "last"])

    def test_equal_schemes(self):
        scheme = Scheme(ROWS)
        for rows in (ROWS, ROWS[::-1], tuple(ROWS[3:] + ROWS[:3])):
            self.assertTrue(scheme == Scheme(rows))
            self.assertFalse(scheme != Scheme(rows))
        other = [("inner", "q76.5", "q76.5")] + ROWS[1:6] + [("last", "r1", "zzz9999.99")] + ROWS[7:]
        self.assertTrue(scheme == Scheme(other))
        self.assertTrue(Scheme([]) == Scheme(()))

    def test_unlike_schemes(self):
        scheme = Scheme(ROWS)
        for rows in (
            ROWS[1:], [], [("innen", "q76.5", "q76.59")] + ROWS[1:], [("inner", "q76.5", "q76.589")] + ROWS[1:],
            [("inner", "q76.501", "q76.59")] + ROWS[1:], [*ROWS, ("more", "q80", "q80")],
            [("middle", *ROWS[0][1:])] + ROWS[1:4] + [("inner", *ROWS[4][1:])] + ROWS[5:],
        ):
            self.assertFalse(scheme == Scheme(rows), rows)
            self.assertTrue(scheme != Scheme(rows), rows)

    def test_what_is_no_scheme(self):
        for thing in (*NO_LISTS, ROWS, [], (), tuple(ROWS)):
            self.assertFalse(Scheme(ROWS) == thing)
            self.assertFalse(thing == Scheme([]))


class Classes(Case):
    def test_spans_written_out(self):
        scheme = Scheme(ROWS)
        for name, first, behind in (
            ("inner", "q76.5", "q76.6"), ("wide", "q1", "q100"), ("high", "q100.5", "qca1"), ("first", "a1", "b5.6"),
            ("last", "r1", None), ("low", "q9", "q76"), ("least", "q76.55", "q76.56"), ("middle", "q76", "q77"),
        ):
            told = scheme.span(name)
            self.assertIs(type(told), tuple)
            self.assertEqual(told, (mark_of(first), None if behind is None else mark_of(behind)))

    def test_plain_heads_written_out(self):
        scheme = Scheme(ROWS)
        for name, plain in (
            ("inner", ("q76.5", "q76.5")), ("wide", ("q1", "q99")), ("low", ("q9", "q75")), ("last", ("r1", "zzz9999")),
            ("least", ("q76.55", "q76.55")), ("first", ("a1", "b5.5")),
        ):
            self.assertEqual(scheme.plain(name), plain)
            self.assertIs(type(scheme.plain(name)), tuple)
        self.assertEqual(Scheme([("a", "q1.0999", "q1.0999")]).plain("a"), ("q1.0999", "q1.09"))

    def test_marks_at_the_edges(self):
        for first, last in itertools.product(HEADS, repeat=2):
            if upside_by_hand(("a", first, last)):
                continue
            scheme = Scheme([("a", first, last)])
            low, behind = scheme.span("a")
            for text in MARKS:
                held = holds_by_hand(first, last, text)
                mark = mark_of(text)
                self.assertIs(scheme.holds("a", mark), held, (first, last, text))
                self.assertEqual(scheme.chain(mark), ["a"] if held else [])
                self.assertEqual(not mark.ahead(low) and (behind is None or mark.ahead(behind)), held)
            plain = scheme.plain("a")
            self.assertEqual(Scheme([("a", *plain)]), scheme)

    def test_against_all_marks_of_few_signs(self):
        scheme = Scheme([("a", "b1", "d9"), ("b", "c5", "c5"), ("c", "d10", "e7"), ("d", "zz8", "zzz9999")])
        rows = {name: heads for name, *heads in scheme.rows()}
        for text in texts_of_at_most_three()[::3]:
            mark = mark_of(text)
            for name, (first, last) in rows.items():
                self.assertEqual(scheme.holds(name, mark), holds_by_hand(first, last, text), (name, text))

    def test_chains_by_chance(self):
        for rows in schemes_by_chance():
            scheme = Scheme(rows)
            for text in MARKS:
                held = [(name, span_by_hand(*heads)) for name, *heads in rows if holds_by_hand(*heads, text)]
                told = scheme.chain(mark_of(text))
                self.assertEqual(sorted(told), sorted(name for name, _ in held))
                spans = dict(held)
                for wide, narrow in itertools.combinations(told, 2):
                    self.assertTrue(is_within_by_hand(spans[narrow], spans[wide]), (rows, text, told))
                self.assertEqual(scheme.narrowest(mark_of(text)), told[-1] if told else None)

    def test_around_and_inside_by_chance(self):
        for rows in schemes_by_chance():
            scheme = Scheme(rows)
            spans = {name: span_by_hand(*heads) for name, *heads in rows}
            within = {
                name: [other for other in spans if other != name and is_within_by_hand(span, spans[other])]
                for name, span in spans.items()
            }
            firsts = put_in_order([first for first, _ in spans.values()])
            place = {name: firsts.index(first) for name, (first, _) in spans.items()}
            for name in spans:
                # Each wider one has fewer around it.
                self.assertEqual(scheme.around(name), sorted(within[name], key=lambda other: len(within[other])))
                inner = [other for other in spans if name in within[other]]
                straight = [other for other in inner if not any(one in inner for one in within[other])]
                self.assertEqual(scheme.inside(name), sorted(straight, key=place.get))
            outer = [name for name in spans if not within[name]]
            self.assertEqual(scheme.inside(), sorted(outer, key=place.get))
            self.assertEqual(scheme.inside(None), scheme.inside())

    def test_rows_written_out(self):
        scheme = Scheme(ROWS)
        for text, names in (
            ("q76.55 k5 1998", ["wide", "middle", "inner", "least"]), ("q76.5", ["wide", "middle", "inner"]),
            ("q5 z9", ["wide", "start"]), ("q6", ["wide"]), ("q75.99 z9 z9 z9 2999 c.5", ["wide", "low"]),
            ("q100", []), ("q100.5", ["high"]), ("b5.59 c.7", ["first"]), ("b5.6", []), ("zzz9999.9 z9", ["last"]),
        ):
            self.assertEqual(scheme.chain(mark_of(text)), names)
            self.assertEqual(scheme.narrowest(mark_of(text)), names[-1] if names else None)
        self.assertEqual(scheme.around("least"), ["wide", "middle", "inner"])
        self.assertEqual(scheme.around("wide"), [])
        self.assertEqual(scheme.inside("wide"), ["start", "low", "middle"])
        self.assertEqual(scheme.inside("middle"), ["inner", "other"])
        self.assertEqual(scheme.inside("least"), [])
        self.assertEqual(scheme.inside(name="inner"), ["least"])
        self.assertEqual(Scheme([]).inside(), [])
        self.assertEqual((Scheme([]).chain(mark_of("q1")), Scheme([]).narrowest(mark_of("q1"))), ([], None))

    def test_not_there(self):
        scheme = Scheme(ROWS)
        for thing in (*NO_NAMES, "a", "b", "wides", "widest", ROWS[0], "q1"):
            for question in (scheme.span, scheme.plain, scheme.around):
                self.refuses(NotThere, thing, question, thing)
            self.refuses(NotThere, thing, scheme.holds, thing, mark_of("q1"))
            if thing is not None:
                self.refuses(NotThere, thing, scheme.inside, thing)
                self.refuses(NotThere, thing, Scheme([]).inside, thing)
        self.refuses(NotThere, "wide", Scheme([]).span, "wide")


if __name__ == "__main__":
    unittest.main()
