"""Papers that show that no short row has fewer signs: point [75]."""

import unittest

from spinemarks.marks import Mark
from spinemarks.short import Shorts, cuts_of
from spinemarks.shortpaper import shows_short
from tests.helper import Case, compared, mark_of, marks_of, texts_told
from tests.test_short import ROWS

NO_PAPERS = (
    None, True, False, 0, 7, "", "q1", {}, {"q1": 2}, mark_of("q1"), Mark, [], (), [None], [[]], [{}], ["q1"], [{"q1"}],
    [["q1", 2]], [("q1", 2)], [{"q1": 2}, {}],
)
NO_NUMBERS = (None, True, False, "", "2", [], [2], (2,), {}, {2: 2}, mark_of("q1"))


def by_the_words(marks, many, paper):
    """Whether the paper shows it, by the words of the point."""
    if type(many) is not int or not isinstance(paper, (list, tuple)) or len(paper) != len(marks):
        return False
    if not marks:
        return many <= 0
    cuts = [texts_told(cuts_of(mark)) for mark in marks]
    for needed, texts in zip(paper, cuts):
        if not isinstance(needed, dict) or set(needed) != set(texts):
            return False
        if not all(number is None or type(number) is int for number in needed.values()):
            return False
    if not all(number is not None and number <= len(text) for text, number in paper[0].items()):
        return False
    for ahead, needed in zip(paper, paper[1:]):
        for text, number in needed.items():
            for other, fewer in ahead.items():
                if fewer is not None and compared(other, text) < 0:
                    if number is None or number > fewer + len(text):
                        return False
    return all(number is None or number >= many for number in paper[-1].values())


def papers_with_one_thing_otherwise(paper):
    """Papers in which one number, key or dict is otherwise, and whether it still is of the right form."""
    for at, needed in enumerate(paper):
        rest = paper[:at], paper[at + 1:]
        yield [*rest[0], *rest[1]]
        yield [*rest[0], needed, needed, *rest[1]]
        yield [*rest[0], list(needed.items()), *rest[1]]
        yield [*rest[0], None, *rest[1]]
        yield [*rest[0], {}, *rest[1]]
        yield [*rest[0], {**needed, "~": 5}, *rest[1]]
        yield [*rest[0], {**needed, 7: None}, *rest[1]]
        yield [*rest[0], dict(reversed(list(needed.items()))), *rest[1]]
        for text, number in needed.items():
            yield [*rest[0], {other: many for other, many in needed.items() if other != text}, *rest[1]]
            yield [*rest[0], {other + " " if other == text else other: needed[other] for other in needed}, *rest[1]]
            others = [None, True, False, "5", "", [5], (5,), mark_of("q1"), 0, -1, 10 ** 29, -10 ** 29]
            if number is not None:
                others += [number - 1, number + 1]
            for other in others:
                yield [*rest[0], {**needed, text: other}, *rest[1]]


class ShowsShort(Case):
    def test_the_papers_of_shorts(self):
        for texts in ROWS:
            shorts = Shorts(marks_of(*texts))
            for many, shown in ((shorts.signs(), True), (shorts.signs() - 1, True), (shorts.signs() + 1, False)):
                self.assertIs(shows_short(shorts.marks(), many, shorts.paper()), shown, (texts, many))
            self.assertIs(shows_short(tuple(shorts.marks()), 0, tuple(shorts.paper())), True)
            self.assertIs(shows_short(shorts.marks(), -10 ** 29, shorts.paper()), True)
            self.assertIs(shows_short(shorts.marks(), 10 ** 29, shorts.paper()), False)

    def test_papers_with_one_thing_otherwise(self):
        shown = []
        for texts in ROWS[:6] + ROWS[12:]:
            shorts = Shorts(marks_of(*texts))
            marks = shorts.marks()
            for paper in papers_with_one_thing_otherwise(shorts.paper()):
                for many in (shorts.signs(), shorts.signs() - 1):
                    told = shows_short(marks, many, paper)
                    self.assertIs(told, by_the_words(marks, many, paper), (texts, many, paper))
                    shown.append(told)
        self.assertGreater(shown.count(True), 50)
        self.assertGreater(shown.count(False), 1000)

    def test_rows_written_out(self):
        marks = marks_of("q1.5", "q1.52")
        first, second = {"q1": 2, "q1.5": 4}, {"q1": None, "q1.5": 6, "q1.52": 7}
        self.assertEqual(Shorts(marks).paper(), [first, second])
        self.assertIs(shows_short(marks, 6, [first, second]), True)
        self.assertIs(shows_short(marks, 7, [first, second]), False)
        # A number that is too low proves less, one that is too high proves nothing.
        self.assertIs(shows_short(marks, 5, [first, {**second, "q1.5": 5}]), True)
        self.assertIs(shows_short(marks, 6, [first, {**second, "q1.5": 5}]), False)
        self.assertIs(shows_short(marks, 6, [first, {**second, "q1.5": 7}]), False)
        self.assertIs(shows_short(marks, 6, [{**first, "q1.5": 5}, second]), False)
        self.assertIs(shows_short(marks, 6, [{**first, "q1.5": 3}, second]), True)
        self.assertIs(shows_short(marks, 5, [{**first, "q1": 1}, second]), False)
        self.assertIs(shows_short(marks, 5, [{**first, "q1": 1}, {**second, "q1.5": 5, "q1.52": 6}]), True)
        self.assertIs(shows_short(marks, 6, [{**first, "q1": None}, second]), False)
        # Where no cut is ahead of it, any number and None will do.
        self.assertIs(shows_short(marks, 6, [first, {**second, "q1": 10 ** 29}]), True)
        self.assertIs(shows_short(marks, 6, [first, {**second, "q1": 6}]), True)
        self.assertIs(shows_short(marks, 6, [first, {**second, "q1": 5}]), False)
        self.assertIs(shows_short(marks, 6, [first, {**second, "q1.52": None}]), False)
        self.assertIs(shows_short(marks, 6, [first, dict(reversed(second.items()))]), True)

    def test_of_one_mark(self):
        marks = marks_of("q1.5")
        self.assertIs(shows_short(marks, 2, [{"q1": 2, "q1.5": 4}]), True)
        self.assertIs(shows_short(marks, 3, [{"q1": 3, "q1.5": 4}]), False)
        self.assertIs(shows_short(marks, 2, [{"q1": 2, "q1.5": 5}]), False)
        self.assertIs(shows_short(marks, 2, [{"q1": 2, "q1.5": None}]), False)
        self.assertIs(shows_short(marks, -3, [{"q1": -3, "q1.5": -2}]), True)
        self.assertIs(shows_short(marks, -2, [{"q1": -3, "q1.5": -2}]), False)

    def test_no_papers(self):
        for thing in NO_PAPERS:
            for marks in (marks_of("q1"), marks_of("q1", "q2"), marks_of("q1.5", "q1.52", "q3")):
                self.assertIs(shows_short(marks, 0, thing), by_the_words(marks, 0, thing), thing)
        self.assertIs(shows_short(marks_of("q1"), 2, [{"q1": 2}]), True)

    def test_numbers_that_are_no_whole_numbers(self):
        for texts in ROWS[:5]:
            shorts = Shorts(marks_of(*texts))
            for thing in NO_NUMBERS:
                self.assertIs(shows_short(shorts.marks(), thing, shorts.paper()), False)

    def test_no_marks(self):
        for many in (0, -1, -10 ** 29):
            self.assertIs(shows_short([], many, []), True)
            self.assertIs(shows_short((), many, ()), True)
        for many in (1, 10 ** 29, True, False, None, "0"):
            self.assertIs(shows_short([], many, []), False)
        for paper in (None, {}, "", 0, [{}], [[]], [None]):
            self.assertIs(shows_short([], 0, paper), False)

    def test_nothing_is_changed(self):
        shorts = Shorts(marks_of("q1.5", "q1.52"))
        marks, paper = shorts.marks(), shorts.paper()
        shows_short(marks, 6, paper)
        self.assertEqual((marks, paper), (shorts.marks(), shorts.paper()))


if __name__ == "__main__":
    unittest.main()
