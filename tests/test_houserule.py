"""The rule by which a row of marks stands, or a paper that there is none: point [95]."""

import itertools
import random
import unittest

from spinemarks.errors import NoRow
from spinemarks.houserule import rule_for, shows_none
from spinemarks.marks import Mark
from spinemarks.rules import Rule
from tests.helper import Case, mark_of, marks_of, parts_of
from tests.test_rules import PARTS, STEPS, compared_by_hand, marks_by_chance, order_by_hand, rules_by_chance

NO_ROWS = (None, True, False, 0, 7, "", "q1 q2", {}, {"a": Mark("a", 1), "b": Mark("b", 1)}, Mark("a", 1), [], ())
NO_PLACES = (None, True, False, -1, 1, "0", [0], (0,), {}, Mark("a", 1))


def row_by_rule(steps, many, seed):
    """Marks by chance as a rule has put them in order, those that are alike by it left out."""
    rows = []
    for mark in Rule(steps).in_order(marks_by_chance(many, seed)):
        if not rows or order_by_hand(steps, str(rows[-1]), str(mark)) < 0:
            rows.append(mark)
    return rows[:20]


def is_paper_by_hand(marks, places):
    """Whether places are a paper of the row of marks, by the words of the point."""
    pairs = [(parts_of(str(marks[at])), parts_of(str(marks[at + 1]))) for at in places]
    for part, way in STEPS:
        number = PARTS.index(part)
        signs = [compared_by_hand((part, way), one[number], other[number]) for one, other in pairs]
        if 1 not in signs and signs != [0] * len(signs):
            return False
    return len(places) > 0


def stands_by(steps, marks):
    return all(order_by_hand(steps, str(one), str(other)) < 0 for one, other in itertools.pairwise(marks))


def rows_without_a_rule():
    """Rows that were in order by a rule, with two marks exchanged or one mark twice, which no rule puts so."""
    chance = random.Random(13)
    found = []
    for number, steps in enumerate(rules_by_chance(60, 14)):
        marks = row_by_rule(steps, 25, number)
        if len(marks) < 3:
            continue
        marks[chance.randrange(len(marks))] = chance.choice(marks)
        one, other = chance.sample(range(len(marks)), 2)
        marks[one], marks[other] = marks[other], marks[one]
        if rule_for(marks)[0] == "none":
            found.append(marks)
    return found


class RuleFor(Case):
    def check(self, marks):
        """What is told of a row: a rule by which it stands, or a paper."""
        told = rule_for(marks)
        self.assertEqual((type(told), len(told)), (tuple, 2))
        if told[0] == "rule":
            self.assertIsInstance(told[1], Rule)
            self.assertTrue(stands_by(told[1].steps(), marks), (marks, told))
        else:
            self.assertEqual(told[0], "none")
            self.assertIs(type(told[1]), list)
            self.assertTrue(is_paper_by_hand(marks, told[1]), (marks, told))
            self.assertIs(shows_none(marks, told[1]), True)
        return told

    def test_rows_that_a_hidden_rule_put_in_order(self):
        lengths = set()
        for number, steps in enumerate(rules_by_chance(120, 15)):
            marks = row_by_rule(steps, 2 + number % 30, number)
            if len(marks) >= 2:
                self.assertEqual(self.check(marks)[0], "rule", (steps, marks))
                self.assertEqual(self.check(tuple(marks))[0], "rule")
                lengths.add(len(marks))
        self.assertIn(20, lengths)
        self.assertLess(min(lengths), 5)

    def test_rows_with_marks_exchanged_or_twice(self):
        words = {"rule": 0, "none": 0}
        chance = random.Random(16)
        for number, steps in enumerate(rules_by_chance(80, 17)):
            marks = row_by_rule(steps, 12, number)
            if len(marks) < 2:
                continue
            one, other = chance.sample(range(len(marks)), 2)
            turned = list(marks)
            turned[one], turned[other] = marks[other], marks[one]
            words[self.check(turned)[0]] += 1
            self.assertEqual(self.check([*marks, marks[one]])[0], "none")
        self.assertGreater(min(words.values()), 5)

    def test_all_rules_are_tried_for_short_rows(self):
        # Each rule of few steps, for rows of three marks: where any puts the row so, a rule is told.
        rules = [list(steps) for many in (1, 2) for steps in itertools.permutations(STEPS, many)]
        rules = [steps for steps in rules if len(dict(steps)) == len(steps)]
        words = set()
        for number in range(40):
            marks = marks_by_chance(3 if number % 2 else 4, number)
            told = self.check(marks)
            words.add(told[0])
            if any(stands_by(steps, marks) for steps in rules):
                self.assertEqual(told[0], "rule")
        self.assertEqual(words, {"rule", "none"})

    def test_rows_of_two(self):
        for one, other in itertools.product(marks_of("a1", "a2", "b1", "a1.5", "a1 1998", "a1 c.2", "a1 k5"), repeat=2):
            told = self.check([one, other])
            expected = any(stands_by([step], [one, other]) for step in STEPS)
            self.assertEqual(told[0], "rule" if expected else "none", (one, other))
        self.assertEqual(rule_for(marks_of("q1", "q1")), ("none", [0]))

    def test_rows_written_out(self):
        for texts, steps in (
            ("q9/q10", ("number", "whole")), ("q10/q9", ("number", "figures")), ("b1/aa1", ("letters", "short")),
            ("aa1/b1", ("letters", "words")), ("q1/q1.5", ("points", "decimal")), ("q1.5/q1", ("points", "late")),
            ("q1.5/q1.49", ("points", "whole")), ("q1 k5/q1 k49", ("makers", "whole")),
            ("q1 z1/q1 a1 a1", ("makers", "few")), ("q1 1998/q1", ("year", "late")), ("q1 c.2/q1", ("copy", "falling")),
            ("q1 1998/q1 1997", ("year", "falling")), ("q1 c.10/q1 c.9", ("copy", "falling")),
        ):
            told = self.check(marks_of(*texts.split("/")))
            self.assertEqual(told[0], "rule")
            self.assertEqual(told[1].steps()[0][0], steps[0])
        for texts in ("q1/q1", "q2/q1", "q1/q2/q1", "q10/q9/q11", "q1 k5/q1", "q1 1997/q1/q1 1998/q1 1996"):
            self.assertEqual(self.check(marks_of(*texts.split("/")))[0], "none", texts)

    def test_more_steps_are_taken_where_needed(self):
        marks = marks_of("a1", "a1 1998", "a2", "a2 k1", "a2 k1 1990", "b1 c.3", "b1 c.2")
        told = self.check(marks)
        self.assertEqual(told[0], "rule")
        self.assertGreater(len(told[1]), 2)

    def test_new_lists_and_what_is_handed_in_stays(self):
        marks = marks_of("q2", "q1", "q3")
        told = rule_for(marks)
        told[1].clear()
        self.assertEqual(marks, marks_of("q2", "q1", "q3"))
        self.assertEqual(rule_for(marks), rule_for(list(marks)))
        self.assertTrue(shows_none(marks, rule_for(marks)[1]))

    def test_no_row(self):
        marks = marks_by_chance(21, 18)
        for thing in (*NO_ROWS, marks, marks[:1], (marks[0],), [1] * 21, [None] * 100):
            self.refuses(NoRow, thing, rule_for, thing)
            self.refuses(NoRow, thing, shows_none, thing, [0])
            self.refuses(NoRow, thing, shows_none, thing, None)

    def test_no_row_of_marks(self):
        for thing in ([1, 2], ["q1", "q2"], (Mark("q", 1), None), [Mark("q", 1), "q2"]):
            self.refuses(NoRow, thing, rule_for, thing)
            self.refuses(NoRow, thing, shows_none, thing, [0])


class ShowsNone(Case):
    def test_all_sets_of_places_of_short_rows(self):
        told = {True: 0, False: 0}
        for marks in [marks_by_chance(5, number) for number in range(20)] + [row[:6] for row in rows_without_a_rule()]:
            for many in range(len(marks)):
                for places in itertools.combinations(range(len(marks) - 1), many):
                    expected = is_paper_by_hand(marks, places)
                    self.assertIs(shows_none(marks, list(places)), expected)
                    self.assertIs(shows_none(tuple(marks), places), expected)
                    told[expected] += 1
        self.assertGreater(min(told.values()), 30)

    def test_places_left_out_and_once_more_and_in_another_order(self):
        chance = random.Random(19)
        left = 0
        for marks in rows_without_a_rule():
            places = rule_for(marks)[1]
            for paper in (tuple(places), places[::-1], places + places, chance.sample(places, len(places))):
                self.assertIs(shows_none(marks, paper), True)
            for at in range(len(places)):
                fewer = places[:at] + places[at + 1:]
                self.assertIs(shows_none(marks, fewer), is_paper_by_hand(marks, fewer))
                left += not is_paper_by_hand(marks, fewer)
        self.assertGreater(left, 5)

    def test_what_is_no_list_of_places(self):
        marks = marks_of("q1", "q1")
        self.assertIs(shows_none(marks, [0]), True)
        self.assertIs(shows_none(marks, (0, 0, 0)), True)
        for thing in (None, True, False, 0, 1, "", "0", {}, {0: 0}, Mark("a", 1), [], ()):
            self.assertIs(shows_none(marks, thing), False)
        for thing in NO_PLACES:
            self.assertIs(shows_none(marks, [thing]), False)
            self.assertIs(shows_none(marks, [0, thing]), False)
        self.assertIs(shows_none(marks_of("q1", "q2", "q1"), [1]), True)
        self.assertIs(shows_none(marks_of("q1", "q2", "q1"), [2]), False)
        self.assertIs(shows_none(marks_of("q1", "q2", "q1"), [0]), False)

    def test_rows_that_stand_by_a_rule_have_no_paper(self):
        for number, steps in enumerate(rules_by_chance(20, 20)):
            marks = row_by_rule(steps, 12, number)[:7]
            if len(marks) >= 2:
                for many in range(1, len(marks)):
                    for places in itertools.combinations(range(len(marks) - 1), many):
                        self.assertIs(shows_none(marks, places), False)

    def test_marks_alike_in_one_part_alone(self):
        # By the letters alone both are alike, by the number the first one is behind.
        marks = marks_of("q2 k5", "q1 k5")
        self.assertIs(shows_none(marks, [0]), True)
        self.assertIs(shows_none([mark_of("q2 1998"), mark_of("q1 1997")], [0]), False)


if __name__ == "__main__":
    unittest.main()
