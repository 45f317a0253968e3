"""Heads: marks without makers, year and copy, and what lies behind all marks under one."""

from spinemarks.errors import NoHead
from spinemarks.marks import Mark
from spinemarks.reading import mark_and_signs
from spinemarks.signs import SMALL

# A head's makers, year and copy.
NO_MORE = ((), None, None)


def head_of(text):
    """The head whose text it is, a mark."""
    if not isinstance(text, str):
        raise NoHead(text)
    mark, _ = mark_and_signs(text)
    if mark is None or mark.parts()[3:] != NO_MORE:
        raise NoHead(text)
    return mark


def behind_head(text):
    """The first mark behind all marks whose heads lie under this one, or None."""
    head = head_of(text)
    # The figure 9 is the last one, so behind it comes what is behind the points without it.
    points = head.points().rstrip("9")
    if points != "":
        return Mark(head.letters(), head.number(), points[:-1] + str(int(points[-1]) + 1))
    if head.number() < 9999:
        return Mark(head.letters(), head.number() + 1)
    letters = _letters_behind(head.letters())
    return None if letters == "" else Mark(letters, 1)


def least_head(text):
    """The text of fewest signs of a head that has the same mark behind all that lie under it."""
    head = head_of(text)
    points = head.points().rstrip("9")
    if points.endswith("0"):
        # Points don't end with a 0, so one of the figures 9 behind it must stay.
        points += "9"
    return str(Mark(head.letters(), head.number(), points))


def _letters_behind(letters):
    """The letters straight behind these in their order, none behind the last ones."""
    if len(letters) < 3:
        return letters + "a"
    begun = letters.rstrip("z")
    if begun == "":
        return ""
    return begun[:-1] + SMALL[SMALL.index(begun[-1]) + 1]
