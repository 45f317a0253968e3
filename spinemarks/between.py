"""Whether any mark lies in a stretch, and the shortest that does."""

from spinemarks.errors import NoRoom
from spinemarks.stretch import Stretch


def room(low=None, high=None, with_low=False, with_high=False):
    """Whether any mark lies between low and high, or is one of them that is counted."""
    return Stretch(low, high, with_low, with_high).has(1)


def shortest(low=None, high=None, with_low=False, with_high=False):
    """Of the marks of fewest signs that lie in the stretch the first one."""
    stretch = Stretch(low, high, with_low, with_high)
    if not stretch.has(1):
        raise NoRoom((low, high))
    marks = stretch.spread(1)
    return marks[0]
