"""Borders between shelves, and the shelf on which a mark is sought by them."""

from spinemarks.between import shortest
from spinemarks.errors import NoShelf
from spinemarks.signs import is_whole


def border(shelves, number):
    """The shortest mark behind all books on the shelves ahead and not behind the first book of this one, or None."""
    rows = shelves.rows()
    if not is_whole(number, 0, len(rows) - 1):
        raise NoShelf(number)
    return _border(rows, number)


def borders(shelves):
    """The borders of all shelves, a list of marks or None."""
    rows = shelves.rows()
    return [_border(rows, number) for number in range(len(rows))]


def sought(shelves, mark):
    """The number of the last shelf with books that has no border, or one that isn't behind the mark, or None."""
    told = None
    last = None
    for number, row in enumerate(shelves.rows()):
        if row:
            if last is None or _is_reached(last, row[0], mark):
                told = number
            last = row[-1]
    return told


def _border(rows, number):
    ahead = [mark for row in rows[:number] for mark in row]
    if not ahead or not rows[number]:
        return None
    return _between(ahead[-1], rows[number][0])


def _between(last, first):
    """The border between the last book ahead of a shelf and the first one on it."""
    return shortest(last, first, with_high=True)


def _is_reached(last, first, mark):
    """Whether the border between the books isn't behind the mark."""
    # The border need be known only for a mark between the books.
    if not last.ahead(mark):
        return False
    return not mark.ahead(first) or not mark.ahead(_between(last, first))
