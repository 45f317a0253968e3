"""The rules of houses, and the ways in which they order each part: points [91] to [93]."""

import itertools
import random
import unittest

from spinemarks.errors import MarkError, NoPart, NoStep, NoSteps, NoWay, Twice
from spinemarks.marks import Mark
from spinemarks.order import order
from spinemarks.rules import Rule, first_rule
from spinemarks.ways import ways
from tests.helper import TEXTS, Case, compared, compared_signs, mark_of, parts_of, put_in_order

PARTS = ("letters", "number", "points", "makers", "year", "copy")
WAYS = {
    "letters": ["words", "short"],
    "number": ["whole", "figures"],
    "points": ["decimal", "whole", "late"],
    "makers": ["decimal", "whole", "few"],
    "year": ["rising", "falling", "late", "figures"],
    "copy": ["rising", "falling", "figures"],
}
STEPS = [(part, way) for part, words in WAYS.items() for way in words]
# Of each part values that the ways order otherwise, with none, noughts ahead, and beginnings of longer ones.
VALUES = {
    "letters": ("a", "b", "z", "aa", "ab", "az", "ba", "aaa", "zzz"),
    "number": (1, 2, 9, 10, 11, 19, 90, 100, 109, 199, 1000, 9999),
    "points": ("", "1", "01", "001", "0001", "11", "101", "49", "5", "05", "055", "50005", "9", "9" * 40),
    "makers": (
        (), ("a1",), ("a01",), ("a001",), ("a11",), ("a2",), ("a49",), ("a5",), ("a05",), ("b1",), ("b2",),
        ("a1", "a1"), ("a1", "a01"), ("a1", "a11"), ("a1", "a2"), ("a2", "a1"), ("b1", "a1"), ("a1", "b1"),
        ("a1", "a1", "a1"), ("a5", "a49", "b1"), ("a5", "a5"), ("b05", "a1", "a1"),
    ),
    "year": (None, 1000, 1001, 1998, 2000, 2999),
    "copy": (None, 2, 3, 9, 10, 11, 19, 20, 100, 10 ** 29, 2 * 10 ** 28),
}
NO_WORDS = (None, True, 0, "", "Letters", "letters ", "words ", "part", [], ["letters"], ("letters",), {}, Mark("a", 1))
NO_STEPS_AT_ALL = (None, True, False, 0, 7, "", "letters", {}, {("letters", "words"): 1}, [], (), Mark("a", 1))
NO_STEPS = (
    None, True, 0, "", "ab", [], ["letters", "words"], (), ("letters",), ("letters", "words", "words"), {},
    {"letters": 1, "words": 2}, Mark("a", 1),
)


def compared_by_hand(step, one, other):
    """-1, 0 or 1, as two values of a part come by a way, by the words of the point."""
    part, way = step
    if one == other:
        return 0
    if part == "makers":
        return makers_by_hand(way, one, other)
    if one in (None, "") or other in (None, ""):
        none_first = (way not in ("late", "falling"))
        return -1 if (one in (None, "")) == none_first else 1
    if way == "short" and len(one) != len(other):
        return -1 if len(one) < len(other) else 1
    if way == "figures":
        return compared_signs(str(one), str(other))
    if part == "points" and way == "whole":
        if int(one) != int(other):
            return -1 if int(one) < int(other) else 1
        return -1 if len(one) < len(other) else 1
    if isinstance(one, str):
        return compared_signs(one, other)
    return (-1 if one < other else 1) * (-1 if way == "falling" else 1)


def makers_by_hand(way, one, other):
    if way == "few" and len(one) != len(other):
        return -1 if len(one) < len(other) else 1
    for first, second in zip(one, other):
        if first[0] != second[0]:
            return -1 if first[0] < second[0] else 1
        if first != second:
            return compared_by_hand(("points", "whole" if way == "whole" else "decimal"), first[1:], second[1:])
    return -1 if len(one) < len(other) else 1


def order_by_hand(steps, one, other):
    """-1, 0 or 1, as two texts of marks come by the steps of a rule."""
    parts = dict(zip(PARTS, zip(parts_of(one), parts_of(other))))
    for step in steps:
        sign = compared_by_hand(step, *parts[step[0]])
        if sign != 0:
            return sign
    return 0


def mark_with(part, value):
    """A mark with this value of the part, and the least signs else."""
    values = {"letters": "a", "number": 1, "points": "", "makers": None, "year": None, "copy": None, part: value}
    return Mark(**values)


def rules_by_chance(many, seed):
    chance = random.Random(seed)
    rules = []
    for _ in range(many):
        parts = chance.sample(PARTS, chance.randint(1, 6))
        rules.append([(part, chance.choice(WAYS[part])) for part in parts])
    return rules


def marks_by_chance(many, seed):
    """Marks with the values above, often alike in some parts."""
    chance = random.Random(seed)
    values = {part: chance.sample(held, min(5, len(held))) for part, held in VALUES.items()}
    return [Mark(*[chance.choice(values[part]) for part in PARTS]) for _ in range(many)]


class Ways(Case):
    def test_ways_of_each_part(self):
        for part, words in WAYS.items():
            told = ways(part)
            self.assertEqual(told, words)
            self.assertIs(type(told), list)
            told.clear()
            self.assertEqual(ways(part), words)

    def test_no_part(self):
        for thing in (*NO_WORDS, "words", "rising", "year "):
            self.refuses(NoPart, thing, ways, thing)

    def test_each_way_of_all_pairs_of_values(self):
        for step in STEPS:
            rule = Rule([step])
            key = rule.key_of()
            marks = [(value, mark_with(step[0], value)) for value in VALUES[step[0]]]
            for (one, first), (other, second) in itertools.product(marks, repeat=2):
                sign = compared_by_hand(step, one, other)
                told = rule.order(first, second)
                self.assertIs(type(told), int)
                self.assertEqual(told, sign, (step, one, other))
                self.assertEqual((key(first) < key(second), key(first) == key(second)), (sign < 0, sign == 0))

    def test_rows_written_out(self):
        for step, texts in (
            (("letters", "words"), "a1 aa1 aaa1 ab1 b1 ba1 z1"), (("letters", "short"), "a1 b1 z1 aa1 ab1 ba1 aaa1"),
            (("number", "whole"), "a1 a2 a9 a10 a11 a90 a100"), (("number", "figures"), "a1 a10 a100 a11 a2 a9 a90"),
            (("points", "decimal"), "a1 a1.001 a1.05 a1.1 a1.11 a1.49 a1.5"),
            (("points", "whole"), "a1 a1.1 a1.001 a1.5 a1.05 a1.11 a1.49"),
            (("points", "late"), "a1.001 a1.05 a1.1 a1.11 a1.49 a1.5 a1"),
        ):
            self.assert_row(step, texts.split())
        for step, texts in (
            (("makers", "decimal"), "a1/a1 a05/a1 a1/a1 a1 a1/a1 a1 b1/a1 a11/a1 a49/a1 a5/a1 b1"),
            (("makers", "whole"), "a1/a1 a1/a1 a1 a1/a1 a1 b1/a1 a5/a1 a05/a1 a11/a1 a49/a1 b1"),
            (("makers", "few"), "a1/a1 a05/a1 a11/a1 a49/a1 a5/a1 b1/a1 a1 a1/a1 a1 b1"),
            (("year", "rising"), "a1/a1 1000/a1 1998/a1 2999"), (("year", "falling"), "a1 2999/a1 1998/a1 1000/a1"),
            (("year", "late"), "a1 1000/a1 1998/a1 2999/a1"), (("year", "figures"), "a1/a1 1000/a1 1998/a1 2999"),
            (("copy", "rising"), "a1/a1 c.2/a1 c.9/a1 c.10/a1 c.20"),
            (("copy", "falling"), "a1 c.20/a1 c.10/a1 c.9/a1 c.2/a1"),
            (("copy", "figures"), "a1/a1 c.10/a1 c.2/a1 c.20/a1 c.9"),
        ):
            self.assert_row(step, texts.split("/"))

    def assert_row(self, step, texts):
        rule = Rule([step])
        marks = [mark_of(text) for text in texts]
        for one, other in itertools.combinations(marks, 2):
            told = (rule.order(one, other), rule.order(other, one), rule.order(one, one))
            self.assertEqual(told, (-1, 1, 0), (step, one, other))
        self.assertEqual(rule.in_order(marks[::-1]), marks)


class Made(Case):
    def test_steps_and_len(self):
        for steps in rules_by_chance(60, 1):
            for given in (list(steps), tuple(steps)):
                rule = Rule(given)
                told = rule.steps()
                self.assertEqual(told, steps)
                self.assertIs(type(told), list)
                self.assertEqual({type(step) for step in told}, {tuple})
                self.assertEqual(len(rule), len(steps))

    def test_lists_are_kept_as_copies_and_told_as_new_ones(self):
        steps = [("year", "late"), ("number", "figures")]
        rule = Rule(steps)
        steps.append(("copy", "rising"))
        steps[0] = ("letters", "words")
        rule.steps().clear()
        self.assertEqual(rule.steps(), [("year", "late"), ("number", "figures")])
        self.assertEqual(len(rule), 2)
        self.assertEqual(rule.order(mark_of("a1"), mark_of("a1 1998")), 1)

    def test_equality(self):
        rules = rules_by_chance(40, 2) + [[("year", "rising")], [("year", "figures")]]
        for one, other in itertools.product(rules, repeat=2):
            self.assertEqual(Rule(one) == Rule(tuple(other)), one == other)
            self.assertEqual(Rule(one) != Rule(other), one != other)
        rule = Rule([("year", "rising"), ("copy", "rising")])
        for thing in (None, True, 2, "year rising", rule.steps(), tuple(rule.steps()), Mark("a", 1), {}):
            self.assertFalse(rule == thing)
            self.assertTrue(rule != thing)
        self.assertFalse(rule == Rule(rule.steps()[::-1]))

    def test_no_steps(self):
        for thing in (*NO_STEPS_AT_ALL, STEPS[::3] + [("year", "late")], [1] * 7, [None] * 100):
            self.refuses(NoSteps, thing, Rule, thing)

    def test_no_step(self):
        for thing in NO_STEPS:
            self.refuses(NoStep, thing, Rule, [thing])
            self.refuses(NoStep, thing, Rule, (("year", "late"), thing, ("year", "late")))

    def test_no_part_and_no_way(self):
        for thing in NO_WORDS:
            self.refuses(NoPart, thing, Rule, [(thing, "words")])
            self.refuses(NoPart, thing, Rule, [(thing, thing)])
            self.refuses(NoWay, thing, Rule, [("letters", thing)])
            self.refuses(NoWay, thing, Rule, [("year", "late"), ("copy", thing)])
        for part, way in itertools.product(WAYS, [way for words in WAYS.values() for way in words]):
            if way in WAYS[part]:
                self.assertEqual(Rule([(part, way)]).steps(), [(part, way)])
            else:
                self.refuses(NoWay, way, Rule, [(part, way)])

    def test_twice(self):
        for part in PARTS:
            steps = [("letters", "words"), ("number", "whole"), ("points", "late"), ("makers", "few"), ("year", "late"),
                     ("copy", "falling")]
            steps = [step for step in steps if step[0] != part]
            self.refuses(Twice, part, Rule, [(part, WAYS[part][0]), *steps[1:], (part, WAYS[part][1])])
        self.refuses(Twice, "year", Rule, [("year", "late"), ("year", "late")])

    def test_two_at_once(self):
        late = ("year", "late")
        odd = [1]
        seven = [odd] * 7
        self.refuses(NoSteps, seven, Rule, seven)
        # Each step wholly ahead of the next one, and in it what it is, its part, its way, then Twice.
        self.refuses(NoStep, odd, Rule, [odd, ("letter", "words")])
        self.refuses(NoPart, "letter", Rule, [("letter", "words"), odd])
        self.refuses(NoPart, "letter", Rule, [("letter", odd)])
        self.refuses(NoWay, odd, Rule, [("letters", odd), odd])
        self.refuses(NoWay, "words", Rule, [late, ("year", "words")])
        self.refuses(Twice, "year", Rule, [late, late, odd])
        self.refuses(NoPart, odd, Rule, [late, (odd, "late"), late])

    def test_refusals_are_of_the_family(self):
        for thing in ([], [1], [(1, 1)], [("year", 1)], [("year", "late")] * 2):
            with self.assertRaises(MarkError):
                Rule(thing)

    def test_the_first_rule(self):
        rule = first_rule()
        self.assertIsInstance(rule, Rule)
        self.assertEqual(rule.steps(), [(part, WAYS[part][0]) for part in PARTS])
        self.assertEqual(rule, first_rule())
        marks = [mark_of(text) for text in TEXTS]
        for one, other in itertools.product(marks, repeat=2):
            self.assertEqual(rule.order(one, other), order(one, other))
        self.assertEqual([str(mark) for mark in rule.in_order(marks)], put_in_order(TEXTS))


class Ordered(Case):
    def test_rules_of_several_steps(self):
        marks = marks_by_chance(25, 3) + [mark_of(text) for text in TEXTS[:12]]
        signs = {-1: 0, 0: 0, 1: 0}
        for steps in rules_by_chance(25, 4):
            rule = Rule(steps)
            key = rule.key_of()
            for one, other in itertools.product(marks, repeat=2):
                sign = order_by_hand(steps, str(one), str(other))
                self.assertEqual(rule.order(one, other), sign, (steps, one, other))
                first, second = key(one), key(other)
                self.assertEqual((type(first), first < second, first == second), (tuple, sign < 0, sign == 0))
                signs[sign] += 1
        self.assertGreater(min(signs.values()), 500)

    def test_six_steps_in_any_order_of_the_parts(self):
        marks = marks_by_chance(40, 5)
        chance = random.Random(6)
        for _ in range(40):
            steps = [(part, chance.choice(WAYS[part])) for part in chance.sample(PARTS, 6)]
            one, other = chance.sample(marks, 2)
            self.assertEqual(Rule(steps).order(one, other), order_by_hand(steps, str(one), str(other)))
            self.assertEqual(Rule(steps).order(one, other) == 0, compared(str(one), str(other)) == 0)

    def test_lists_in_order(self):
        for number, steps in enumerate(rules_by_chance(40, 7)):
            rule = Rule(steps)
            marks = marks_by_chance(30, number)
            given = list(marks)
            told = rule.in_order(marks)
            self.assertIs(type(told), list)
            self.assertIsNot(told, marks)
            self.assertEqual([str(mark) for mark in marks], [str(mark) for mark in given])
            # Put in one by one, each as far behind as it may stand: so those that are alike stand as they stood.
            expected = []
            for mark in given:
                at = len(expected)
                while at > 0 and order_by_hand(steps, expected[at - 1], str(mark)) > 0:
                    at -= 1
                expected.insert(at, str(mark))
            self.assertEqual([str(mark) for mark in told], expected)
            self.assertEqual(rule.in_order(tuple(given)), told)
        self.assertEqual(first_rule().in_order([]), [])

    def test_marks_that_are_alike_stand_as_they_stood(self):
        rule = Rule([("number", "whole")])
        marks = [mark_of(text) for text in ("b2", "a2", "c1", "a2 k5", "b1", "a2")]
        told = [str(mark) for mark in rule.in_order(marks)]
        self.assertEqual(told, ["c1", "b1", "b2", "a2", "a2 k5", "a2"])

    def test_points_of_thousands_of_figures(self):
        # They have no bound of their own, where they were read.
        rule = Rule([("points", "whole"), ("makers", "whole")])
        one, other = Mark("a", 1, "0" + "9" * 5000), Mark("a", 1, "1" + "0" * 5000 + "1")
        self.assertEqual(rule.order(one, other), -1)
        self.assertEqual(rule.order(Mark("a", 1, "1", ["k" + "9" * 5000]), Mark("a", 1, "1", ["k" + "8" * 5001])), -1)


if __name__ == "__main__":
    unittest.main()
