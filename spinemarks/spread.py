"""How many marks lie in a stretch, some of them spread over it, and the neighbours of a mark."""

from spinemarks.errors import NoBound, NoNumber, NoRoom
from spinemarks.nth import nth_mark
from spinemarks.ranks import rank
from spinemarks.signs import is_bound, is_whole
from spinemarks.stretch import MOST_MARKS, Stretch
from spinemarks.tails import Tails


def many_between(many, low=None, high=None, with_low=False, with_high=False):
    """How many marks of at most so many signs lie in the stretch."""
    if not is_bound(many):
        raise NoBound(many)
    return Stretch(low, high, with_low, with_high).marks_in(many)


def spread(many, low=None, high=None, with_low=False, with_high=False):
    """So many marks of the stretch, rising, of those of as few signs as there are enough of."""
    if not is_whole(many, 1, MOST_MARKS):
        raise NoNumber(many)
    stretch = Stretch(low, high, with_low, with_high)
    if not stretch.has(many):
        raise NoRoom((low, high))
    return stretch.spread(many)


def next_of(mark, many):
    """The first mark of at most so many signs behind the mark, or None."""
    if not is_bound(many):
        raise NoBound(many)
    tails = Tails(many)
    number = rank(tails, mark, many) + (1 if len(mark) <= many else 0)
    return nth_mark(tails, number, many) if number < tails.marks(many) else None


def last_before(mark, many):
    """The last mark of at most so many signs ahead of the mark, or None."""
    if not is_bound(many):
        raise NoBound(many)
    tails = Tails(many)
    number = rank(tails, mark, many) - 1
    return nth_mark(tails, number, many) if number >= 0 else None
