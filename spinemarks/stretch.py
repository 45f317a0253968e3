"""Stretches: all marks that lie between two marks, these counted or not."""

from spinemarks.marks import Mark
from spinemarks.nth import nth_mark
from spinemarks.ranks import rank
from spinemarks.tails import Tails

# The most marks that a stretch is asked for at once.
MOST_MARKS = 20
# So many signs more than low are enough for so many marks, as its next copies have no more.
MORE_SIGNS = 5


class Stretch:
    """The marks behind low and ahead of high, and low and high themselves where they are counted."""

    def __init__(self, low, high, with_low, with_high):
        # No mark is ahead of a1, so the stretch begins with it where there is no low one.
        self._low = Mark("a", 1) if low is None else low
        self._with_low = low is None or with_low
        self._high = high
        self._with_high = with_high

    def has(self, many):
        """Whether so many marks, one at least, lie in it."""
        if self._high is None:
            return True
        if not self._low.same_book(self._high):
            # Where low is ahead all its later copies are ahead of high, too, and these have no end.
            return self._low.ahead(self._high)
        first = _copy_of(self._low) + (0 if self._with_low else 1)
        last = _copy_of(self._high) - (0 if self._with_high else 1)
        return last - first + 1 >= many

    def marks_in(self, tails, most):
        """How many marks of at most so many signs lie in it."""
        return max(0, self._end(tails, most) - self._start(tails, most))

    def spread(self, many):
        """So many marks of it, at most twenty, evenly spread among those of as few signs as can be."""
        tails = Tails(len(self._low) + MORE_SIGNS)
        most = self._least_bound(tails, many)
        start = self._start(tails, most)
        there = self.marks_in(tails, most)
        return [nth_mark(tails, start + at * there // many, most) for at in range(many)]

    def _least_bound(self, tails, many):
        """The least bound by which so many marks lie in it, which the tails reach."""
        low = 0
        high = tails.most
        while low < high:
            middle = (low + high) // 2
            if self.marks_in(tails, middle) >= many:
                high = middle
            else:
                low = middle + 1
        return low

    def _start(self, tails, most):
        """The number of its first mark among all marks of at most so many signs."""
        ahead = rank(tails, self._low, most)
        return ahead if self._with_low or len(self._low) > most else ahead + 1

    def _end(self, tails, most):
        """The number of the first mark behind it among all marks of at most so many signs."""
        if self._high is None:
            return tails.marks(most)
        ahead = rank(tails, self._high, most)
        return ahead + 1 if self._with_high and len(self._high) <= most else ahead


def _copy_of(mark):
    """The number of its copy, as which no copy is the first."""
    return mark.copy_number() or 1
