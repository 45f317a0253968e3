"""How many first signs of two marks settle which one is ahead."""

from spinemarks.errors import Alike, NoNumber
from spinemarks.marks import PARTS
from spinemarks.order import order
from spinemarks.reading import goes_on, next_signs
from spinemarks.signs import common_signs, is_whole


def turned(one, other, many):
    """Two marks that so many first signs allow and that come the other way round, or None."""
    if not is_whole(many, 0):
        raise NoNumber(many)
    if one == other:
        raise Alike(one)
    if many >= _settling(one, other):
        return None
    if many <= common_signs(str(one), str(other)):
        return (other, one)
    way = order(other, one)
    marks = _near(str(other)[:many])
    pairs = [(first, second) for first in _near(str(one)[:many]) for second in marks if order(first, second) == way]
    return pairs[0]


def settles(one, other):
    """The order of two unlike marks, how many first signs settle it, and the part that tells it."""
    if one == other:
        raise Alike(one)
    return (order(one, other), _settling(one, other), _first_unlike(one, other))


def _first_unlike(one, other):
    """The first part, as a word, in which two unlike marks are unlike."""
    parts = zip(PARTS, one.parts(), other.parts())
    unlike = [word for word, first, second in parts if first != second]
    return unlike[0]


def _settling(one, other):
    """How many first signs settle the order of two unlike marks, as few as can be."""
    part = _first_unlike(one, other)
    if part == "number":
        # A number is known where it has ended, and where four figures are read.
        figures = min(len(str(one.number())), len(str(other.number())))
        return len(one.letters()) + min(figures + 1, 4)
    if part == "copy":
        # A copy may have any figures more, so one of the marks must have ended.
        return min(len(one), len(other)) + 1
    many = common_signs(str(one), str(other)) + 1
    return many + 1 if _is_open_c(one, other, part) else many


def _is_open_c(one, other, part):
    """Whether a c, where the marks part, leaves the order open: it may be a maker's or a copy's."""
    if part != "makers" and (part != "year" or len(one.makers()) == 3):
        return False
    at = common_signs(str(one), str(other))
    # Ahead of a maker of a letter behind c the c is in both cases.
    return max(str(one)[at:at + 1], str(other)[at:at + 1]) == "c"


def _near(text):
    """Short marks that begin so, one for each sign that may go on, and the shortest one."""
    return [goes_on(text)] + [goes_on(text + sign) for sign in next_signs(text)]
