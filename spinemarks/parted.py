"""Two rules held against each other: the marks of fewest signs that they order otherwise."""

from spinemarks.marks import PARTS, Mark
from spinemarks.ways import compared, value_of

# Of each part pairs of values, each behind how many signs more two marks with these have than two
# with the least values, those with fewer signs first. The first pair is the one of fewest signs of
# all unlike ones; and each two ways that order any pair otherwise order one of these so, the first
# of which is one of fewest signs of all that they do.
PAIRS = {
    "letters": ((0, "a", "b"), (1, "aa", "b")),
    "number": ((0, 1, 2), (1, 2, 10)),
    "points": ((2, "", "1"), (5, "11", "2")),
    "makers": ((3, (), ("a1",)), (7, ("a11",), ("a2",)), (9, ("a1", "a1"), ("b1",))),
    "year": ((5, None, 1000), (10, 1000, 1001)),
    "copy": ((4, None, 2), (9, 2, 10)),
}


def alike(one, other):
    """Whether both rules tell the same of any two marks."""
    return _parts_apart(one, other) == []


def parted(one, other):
    """Two marks, of as few signs as can be, that the rules order otherwise, or None."""
    found = _parts_apart(one, other)
    if not found:
        return None
    pairs = min(found, key=_signs)
    return (_mark_with(pairs, 1), _mark_with(pairs, 2))


def _parts_apart(one, other):
    """Pairs by their parts, a list of dicts: marks with these, and alike else, are ordered otherwise.

    Marks that are ordered otherwise are so, too, when all their parts are made alike but the one
    that settles it by the one rule, and the one by the other: so one part or two will do.
    """
    first = dict(one.steps())
    second = dict(other.steps())
    return _single_parts(first, second) + _turned_parts(first, second)


def _single_parts(first, second):
    """One part each, which just one of the rules has, or both in ways that are not alike."""
    found = []
    for part in PARTS:
        for pair in PAIRS[part]:
            if _sign(first, part, pair) != _sign(second, part, pair):
                found.append({part: pair})
                break
    return found


def _turned_parts(first, second):
    """Two parts each, of which one comes first in one rule, and the other one in the other rule."""
    found = []
    places = list(second)
    shared = [part for part in first if part in second]
    for at, part in enumerate(shared):
        for later in shared[at + 1:]:
            if places.index(later) < places.index(part):
                found.append(_turned(first, second, part, later))
    return found


def _turned(first, second, part, later):
    """Pairs of two parts, of which the first one settles it by the first rule, the other one by the second."""
    one = PAIRS[part][0]
    other = PAIRS[later][0]
    if _sign(first, part, one) == _sign(second, later, other):
        more, low, high = other
        other = (more, high, low)
    return {part: one, later: other}


def _sign(steps, part, pair):
    """How the values of the pair come by the step of this part, 0 where there is none."""
    if part not in steps:
        return 0
    step = (part, steps[part])
    return compared(value_of(step, pair[1]), value_of(step, pair[2]))


def _mark_with(pairs, at):
    """The mark with the values of the pairs at this place, and the least values else."""
    values = [pairs[part][at] if part in pairs else PAIRS[part][0][1] for part in PARTS]
    return Mark(*values)


def _signs(pairs):
    return sum([pair[0] for pair in pairs.values()])
