"""The rule by which a row of marks stands, or a paper that shows that there is none."""

from spinemarks.errors import NoRow
from spinemarks.marks import PARTS, Mark
from spinemarks.rules import Rule
from spinemarks.signs import is_whole
from spinemarks.ways import compared, value_of, ways

MOST_IN_ROW = 20


def rule_for(marks):
    """A rule by which each mark of the row is ahead of the next one, or a paper that there is none."""
    _check_row(marks)
    orders = _orders(marks)
    places = list(range(len(marks) - 1))
    steps = []
    # A step that puts none of the places that are left wrong, and parts any, does no harm: the
    # steps that would do without it do behind it, too, for the places that it leaves.
    while places:
        step = _step_that_parts(orders, places)
        if step is None:
            return ("none", places)
        steps.append(step)
        places = [at for at in places if orders[step][at] == 0]
    return ("rule", Rule(steps))


def shows_none(marks, thing):
    """Whether the thing is a paper that shows that the row stands by no rule."""
    _check_row(marks)
    if not isinstance(thing, (list, tuple)) or len(thing) == 0:
        return False
    if not all([is_whole(at, 0, len(marks) - 2) for at in thing]):
        return False
    return _step_that_parts(_orders(marks), thing) is None


def _check_row(marks):
    if not isinstance(marks, (list, tuple)) or not 2 <= len(marks) <= MOST_IN_ROW:
        raise NoRow(marks)
    if not all([isinstance(mark, Mark) for mark in marks]):
        raise NoRow(marks)


def _orders(marks):
    """By each step how each mark comes to the one that stands behind it, a dict of lists."""
    orders = {}
    for number, part in enumerate(PARTS):
        held = [mark.parts()[number] for mark in marks]
        for way in ways(part):
            values = [value_of((part, way), value) for value in held]
            orders[(part, way)] = [compared(one, other) for one, other in zip(values, values[1:])]
    return orders


def _step_that_parts(orders, places):
    """A step by which none of the marks of these places is behind the next one, and one is ahead, or None."""
    for step, told in orders.items():
        signs = [told[at] for at in places]
        if 1 not in signs and -1 in signs:
            return step
    return None
