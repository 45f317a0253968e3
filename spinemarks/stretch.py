"""Stretches: all marks that lie between two marks, these counted or not."""

from spinemarks.beginnings import Beginning
from spinemarks.marks import Mark, mark_of_key
from spinemarks.nth import nth_key
from spinemarks.ranks import rank
from spinemarks.tails import Tails

# The most marks that a stretch is asked for at once.
MOST_MARKS = 20
# So many signs more than low are enough for so many marks, as its next copies have no more.
MORE_SIGNS = 5
# So many signs are tried at first, where the least bound is looked for.
FIRST_BOUND = 16


class Stretch:
    """The marks behind low and ahead of high, and low and high themselves where they are counted."""

    def __init__(self, low, high, with_low, with_high):
        self._low = low
        self._high = high
        self._with_low = with_low
        self._with_high = with_high

    def has(self, many):
        """Whether so many marks, one at least, lie in it."""
        if self._high is None:
            return True
        # No mark is ahead of a1, so the stretch begins with it where there is no low one.
        low = Mark("a", 1) if self._low is None else self._low
        if not low.same_book(self._high):
            # Where low is ahead all its later copies are ahead of high, too, and these have no end.
            return low.ahead(self._high)
        first = _copy_of(low) + (0 if self._low is None or self._with_low else 1)
        last = _copy_of(self._high) - (0 if self._with_high else 1)
        return last - first + 1 >= many

    def marks_in(self, most):
        """How many marks of at most so many signs lie in it."""
        if self._is_open():
            return self._counted(Tails(most), most)
        shorter = self._shortened(Beginning(self._low, self._high))
        left = most - len(self._low) + len(shorter._low)
        return shorter._counted(Tails(left), left) if left >= 0 else 0

    def spread(self, many):
        """So many marks of it, at most twenty, evenly spread among those of as few signs as can be."""
        if self._is_open():
            return [mark_of_key(key) for key in self._spread(many)]
        beginning = Beginning(self._low, self._high)
        return [beginning.restored(key) for key in self._shortened(beginning)._spread(many)]

    def _is_open(self):
        return self._low is None or self._high is None

    def _shortened(self, beginning):
        """The stretch of the marks that have the shortest beginning in the place of theirs."""
        low = beginning.shortened(self._low)
        return Stretch(low, beginning.shortened(self._high), self._with_low, self._with_high)

    def _spread(self, many):
        """The keys of the marks that are spread."""
        tails = self._tails_for(many)
        most = self._least_bound(tails, many)
        start = self._start(tails, most)
        there = self._end(tails, most) - start
        return [nth_key(tails, start + at * there // many, most) for at in range(many)]

    def _tails_for(self, many):
        """Tails for a bound by which so many marks lie in it, not much greater than need be."""
        enough = MORE_SIGNS + (2 if self._low is None else len(self._low))
        tails = Tails(min(FIRST_BOUND, enough))
        while tails.most < enough and self._counted(tails, tails.most) < many:
            tails = Tails(min(2 * tails.most, enough))
        return tails

    def _least_bound(self, tails, many):
        """The least bound by which so many marks lie in it, which the tails reach."""
        low = 0
        high = tails.most
        while low < high:
            middle = (low + high) // 2
            if self._counted(tails, middle) >= many:
                high = middle
            else:
                low = middle + 1
        return low

    def _counted(self, tails, most):
        """How many marks of at most so many signs, which the tails reach, lie in it."""
        return max(0, self._end(tails, most) - self._start(tails, most))

    def _start(self, tails, most):
        """The number of its first mark among all marks of at most so many signs."""
        if self._low is None:
            return 0
        ahead = rank(tails, self._low, most)
        return ahead if self._with_low or len(self._low) > most else ahead + 1

    def _end(self, tails, most):
        """The number of the first mark behind it among all marks of at most so many signs."""
        if self._high is None:
            return tails.marks(most)
        ahead = rank(tails, self._high, most)
        return ahead + 1 if self._with_high and len(self._high) <= most else ahead


def _copy_of(mark):
    """The number of its copy, as which no copy is the first."""
    return mark.copy_number() or 1
