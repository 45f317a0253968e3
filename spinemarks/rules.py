"""Rules: the steps by which a house orders marks."""

from spinemarks.errors import NoStep, NoSteps, NoWay, Twice
from spinemarks.marks import PARTS
from spinemarks.ways import compared, value_of, ways


class Rule:
    """One step or more, each with a part and the way in which this part is ordered; it never changes."""

    def __init__(self, steps):
        if not isinstance(steps, (list, tuple)) or not 1 <= len(steps) <= len(PARTS):
            raise NoSteps(steps)
        self._steps = []
        for step in steps:
            _check_step(step, self._steps)
            self._steps.append(step)

    def __eq__(self, other):
        return isinstance(other, Rule) and self._steps == other._steps

    def __len__(self):
        return len(self._steps)

    def steps(self):
        """The steps, a list of tuples of part and way, in their order."""
        return list(self._steps)

    def order(self, one, other):
        """-1 where the first mark is ahead of the second by the rule, 1 where it is behind, 0 where they are alike."""
        return compared(self._values(one), self._values(other))

    def in_order(self, marks):
        """The same marks as a list by the rule, in which those that are alike stand as they stood."""
        return sorted(marks, key=self._values)

    def key_of(self):
        """A def that tells of each mark a tuple; these compare as the marks do by the rule."""
        return self._values

    def _values(self, mark):
        parts = dict(zip(PARTS, mark.parts()))
        return tuple([value_of(step, parts[step[0]]) for step in self._steps])


def first_rule():
    """The rule by which marks are in the order of their keys: each part in its first way."""
    return Rule([(part, ways(part)[0]) for part in PARTS])


def _check_step(step, steps):
    """Refuses what is no step that can stand behind these."""
    if not isinstance(step, tuple) or len(step) != 2:
        raise NoStep(step)
    part, way = step
    if way not in ways(part):
        raise NoWay(way)
    if part in [held for held, _ in steps]:
        raise Twice(part)
