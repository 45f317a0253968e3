"""The numbers of marks among all marks of at most so many signs."""

from spinemarks.errors import NoBound, NoNumber, TooLong
from spinemarks.nth import nth_mark
from spinemarks.ranks import rank
from spinemarks.signs import is_bound, is_whole
from spinemarks.tails import Tails


def ahead_of(mark, many):
    """How many marks of at most so many signs are ahead of the mark."""
    if not is_bound(many):
        raise NoBound(many)
    return rank(Tails(many), mark, many)


def number_of(mark, many):
    """The number of the mark among the marks of at most so many signs, from 0 on."""
    ahead = ahead_of(mark, many)
    if len(mark) > many:
        raise TooLong(mark)
    return ahead


def mark_at(number, many):
    """The mark of this number among the marks of at most so many signs."""
    if not is_whole(number, 0):
        raise NoNumber(number)
    if not is_bound(many):
        raise NoBound(many)
    tails = Tails(many)
    if number >= tails.marks(many):
        raise NoNumber(number)
    return nth_mark(tails, number, many)
