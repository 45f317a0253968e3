"""Two rules held against each other: point [94]."""

import functools
import itertools
import random
import unittest

from spinemarks.marks import Mark
from spinemarks.parted import alike, parted
from spinemarks.rules import Rule, first_rule
from tests.helper import Case, is_mark, mark_of
from tests.test_rules import PARTS, WAYS, compared_by_hand, marks_by_chance, order_by_hand, rules_by_chance

# Of each part values of few signs, all those that tell its ways apart among them.
FIGURES = ("1", "2", "01", "02", "10", "11", "12", "20", "21")
MAKERS = [letter + figures for letter in "ab" for figures in FIGURES if not figures.endswith("0")]
VALUES = {
    "letters": ["".join(signs) for many in (1, 2, 3) for signs in itertools.product("ab", repeat=many)],
    "number": list(range(1, 31)) + [100, 101, 999, 1000],
    "points": ["", "001", "111", "201"] + [figures for figures in FIGURES if not figures.endswith("0")],
    "makers": [makers for many in (0, 1, 2) for makers in itertools.product(MAKERS, repeat=many)],
    "year": [None, 1000, 1001, 1010, 1100, 1998, 2000, 2999],
    "copy": [None] + list(range(2, 31)) + [100, 101, 999, 1000],
}
SIGNS = {
    "letters": len, "number": lambda value: len(str(value)), "points": lambda value: len(value) + (value != ""),
    "makers": lambda value: sum(1 + len(maker) for maker in value), "year": lambda value: 0 if value is None else 5,
    "copy": lambda value: 0 if value is None else 3 + len(str(value)),
}


@functools.cache
def fewest(part, way, other):
    """How many signs two values have, at least, that the ways order otherwise, or None; no way tells 0."""
    found = []
    for one, second in itertools.combinations(VALUES[part], 2):
        signs = [0 if word is None else compared_by_hand((part, word), one, second) for word in (way, other)]
        if signs[0] != signs[1]:
            found.append(SIGNS[part](one) + SIGNS[part](second))
    return min(found, default=None)


@functools.cache
def short_pairs():
    """All pairs of texts of marks of altogether at most seven signs, all of these few signs."""
    texts = ["".join(signs) for many in range(2, 6) for signs in itertools.product(" .012abc", repeat=many)]
    pairs = itertools.combinations([text for text in texts if is_mark(text)], 2)
    return [pair for pair in pairs if len(pair[0]) + len(pair[1]) <= 7]


def rules_near(steps, seed):
    """Rules near one: its steps exchanged, another way of one step, one step fewer, one step more."""
    chance = random.Random(seed)
    found = [steps[:at] + steps[at + 1:] for at in range(len(steps)) if len(steps) > 1]
    for at, (part, way) in enumerate(steps):
        found += [steps[:at] + [(part, word)] + steps[at + 1:] for word in WAYS[part] if word != way]
    for one, other in itertools.combinations(range(len(steps)), 2):
        turned = list(steps)
        turned[one], turned[other] = steps[other], steps[one]
        found.append(turned)
    missing = [part for part in PARTS if part not in dict(steps)]
    for part in missing:
        at = chance.randint(0, len(steps))
        found.append(steps[:at] + [(part, chance.choice(WAYS[part]))] + steps[at:])
    return found


def signs_of(one, other):
    return (one > other) - (one < other)


def plain(steps):
    """The steps with one word for the two ways of the year that order all years alike."""
    return [("year", "rising") if step == ("year", "figures") else step for step in steps]


class Parted(Case):
    def check(self, one, other):
        """What is told of two rules by their steps, None or two marks that they order otherwise."""
        told = parted(Rule(one), Rule(other))
        self.assertEqual(alike(Rule(one), Rule(other)), told is None)
        self.assertEqual(told is None, plain(one) == plain(other), (one, other))
        if told is not None:
            self.assertEqual((type(told), len(told)), (tuple, 2))
            self.assertEqual([type(mark) for mark in told], [Mark, Mark])
            texts = [str(mark) for mark in told]
            self.assertNotEqual(order_by_hand(one, *texts), order_by_hand(other, *texts), (one, other, told))
        return told

    def signs(self, one, other):
        return sum(len(mark) for mark in self.check(one, other))

    def test_each_two_ways_of_each_part(self):
        for part, words in WAYS.items():
            for way, other in itertools.product(words, repeat=2):
                least = fewest(part, way, other)
                told = self.check([(part, way)], [(part, other)])
                self.assertEqual(told is None, least is None, (part, way, other))
                if told is not None:
                    spare = {"letters": 2, "number": 2}.get(part, 4)
                    self.assertEqual(len(told[0]) + len(told[1]), least + spare, (part, way, other))

    def test_a_part_that_only_one_rule_has(self):
        signs = {"letters": 4, "number": 4, "points": 6, "makers": 7, "year": 9, "copy": 8}
        for part, words in WAYS.items():
            for way in words:
                rest = [("letters" if part != "letters" else "copy", "words" if part != "letters" else "rising")]
                self.assertEqual(self.signs([(part, way), *rest], rest), signs[part])
                self.assertEqual(self.signs(rest, [*rest, (part, way)]), signs[part])

    def test_two_parts_exchanged(self):
        extra = {"letters": 0, "number": 0, "points": 2, "makers": 3, "year": 5, "copy": 4}
        for one, other in itertools.combinations(PARTS, 2):
            for way, second in itertools.product(WAYS[one], WAYS[other]):
                steps = [(one, way), (other, second)]
                self.assertEqual(self.signs(steps, steps[::-1]), 4 + extra[one] + extra[other], steps)

    def test_two_parts_in_two_ways_each(self):
        # The fewest signs are those of one part or the other, or of both, where they are exchanged.
        least = {"letters": 2, "number": 2}
        for one, other in itertools.combinations(PARTS, 2):
            for way, second in itertools.product(WAYS[one], WAYS[other]):
                for third, last in itertools.product(WAYS[one], WAYS[other]):
                    signs = [fewest(one, way, third), fewest(other, second, last)]
                    signs = [many - least.get(part, 0) for part, many in zip((one, other), signs) if many is not None]
                    both = [fewest(part, WAYS[part][0], None) - least.get(part, 0) for part in (one, other)]
                    first, then = [(one, way), (other, second)], [(one, third), (other, last)]
                    self.assertEqual(self.signs(first, then[::-1]), 4 + min([*signs, sum(both)]), (first, then))
                    if signs:
                        self.assertEqual(self.signs(first, then), 4 + min(signs), (first, then))

    def test_all_rules_near_some(self):
        for number, steps in enumerate(rules_by_chance(12, 8)):
            for other in rules_near(steps, number):
                self.check(steps, other)
                self.check(other, steps)

    def test_fewest_signs_of_all_pairs_of_marks_of_few_signs(self):
        marks = {text: mark_of(text) for pair in short_pairs() for text in pair}
        chance = random.Random(9)
        for number, steps in enumerate(rules_by_chance(8, 10)):
            for other in chance.sample(rules_near(steps, number), 2) + rules_by_chance(1, number):
                told = self.check(steps, other)
                orders = []
                for rule in (Rule(steps), Rule(other)):
                    keys = {text: rule.key_of()(mark) for text, mark in marks.items()}
                    orders.append([signs_of(keys[one], keys[last]) for one, last in short_pairs()])
                apart = [len(one) + len(last) for (one, last), *signs in zip(short_pairs(), *orders) if len(set(signs)) > 1]
                many = 8 if told is None else len(told[0]) + len(told[1])
                self.assertEqual(min(apart, default=8), min(many, 8), (steps, other))

    def test_fewest_signs_among_marks_by_chance(self):
        for number, one in enumerate(rules_by_chance(20, 11)):
            marks = marks_by_chance(60, number)
            for other in rules_by_chance(2, 100 + number) + rules_near(one, number)[:4]:
                told = self.check(one, other)
                first, second = Rule(one), Rule(other)
                for pair in itertools.combinations(marks, 2):
                    if first.order(*pair) != second.order(*pair):
                        self.assertLessEqual(len(told[0]) + len(told[1]), len(pair[0]) + len(pair[1]))

    def test_rules_that_are_alike(self):
        for steps in rules_by_chance(20, 12):
            self.assertIsNone(self.check(steps, list(steps)))
            turned = [("year", "figures") if step == ("year", "rising") else step for step in steps]
            self.assertIsNone(self.check(steps, turned))
        one, other = Rule([("year", "rising")]), Rule([("year", "figures")])
        self.assertIs(alike(one, other), True)
        self.assertIsNone(parted(one, other))
        self.assertNotEqual(one, other)
        self.assertIs(alike(first_rule(), other), False)

    def test_rules_that_are_told_apart_by_a_cheaper_part(self):
        # The step of the makers alone would need eleven signs.
        one = [("makers", "decimal"), ("letters", "words"), ("number", "whole")]
        other = [("makers", "whole"), ("number", "whole"), ("letters", "words")]
        self.assertEqual(self.signs(one, other), 4)
        one = [("year", "late"), ("copy", "rising"), ("points", "decimal")]
        other = [("year", "falling"), ("points", "decimal"), ("copy", "rising")]
        self.assertEqual(self.signs(one, other), 10)


if __name__ == "__main__":
    unittest.main()
