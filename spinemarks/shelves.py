"""Shelves: books in their order on shelves of so many places each."""

from spinemarks.errors import Full, NoRow, NoSize, NoSizes, NotRising, NotThere, There
from spinemarks.marks import Mark
from spinemarks.order import first_wrong, in_order
from spinemarks.signs import is_whole

MOST_SHELVES = 8
MOST_BOOKS = 6


class Shelves:
    """The marks of books that rise shelf by shelf; it changes as books are put in and taken out."""

    def __init__(self, sizes, rows=None):
        if not isinstance(sizes, (list, tuple)) or not 1 <= len(sizes) <= MOST_SHELVES:
            raise NoSizes(sizes)
        for size in sizes:
            _check_size(size)
        if rows is not None:
            _check_rows(rows, sizes)
        self._sizes = list(sizes)
        self._rows = [[] for _ in sizes] if rows is None else [list(row) for row in rows]

    def __eq__(self, other):
        return isinstance(other, Shelves) and self._sizes == other._sizes and self._rows == other._rows

    def __len__(self):
        return len(_joined(self._rows))

    def sizes(self):
        """How many books stand on each shelf at most, a list."""
        return list(self._sizes)

    def rows(self):
        """The marks of the books on each shelf, a list of lists."""
        return [list(row) for row in self._rows]

    def twin(self):
        """Another house of shelves, equal to this one."""
        return Shelves(self._sizes, self._rows)

    def put(self, mark):
        """Puts the mark in; tells of each book that went to another shelf its mark and both shelves."""
        if mark in _joined(self._rows):
            raise There(mark)
        free = [at for at, size in enumerate(self._sizes) if len(self._rows[at]) < size]
        if not free:
            raise Full(len(self))
        first, last = self._neighbours(mark)
        between = [at for at in free if first <= at <= last]
        if not between:
            return self._push(mark, first, last, free)
        self._insert(between[0], mark)
        return []

    def take(self, mark):
        """Takes the mark out; tells the number of its shelf."""
        at = self.shelf_with(mark)
        self._rows[at].remove(mark)
        return at

    def shelf_with(self, mark):
        """The number of the shelf on which the mark stands."""
        for at, row in enumerate(self._rows):
            if mark in row:
                return at
        raise NotThere(mark)

    def grown(self, size):
        """Puts one more shelf, an empty one, behind the last one."""
        _check_size(size)
        if len(self._sizes) == MOST_SHELVES:
            raise NoSizes([*self._sizes, size])
        self._sizes.append(size)
        self._rows.append([])

    def _neighbours(self, mark):
        """The shelves of the books ahead of the mark and behind it, else the first and the last one."""
        books = list(enumerate(self._rows))
        ahead = [at for at, row in books if row and row[0].ahead(mark)]
        behind = [at for at, row in books if row and mark.ahead(row[-1])]
        return (ahead[-1] if ahead else 0, behind[0] if behind else len(books) - 1)

    def _push(self, mark, first, last, free):
        """Puts the mark in between shelves that are full; tells what went to another shelf."""
        # They are one shelf, or two side by side. Each shelf from there to the nearest free place
        # hands one book on: with fewer books one of the shelves would have too many.
        ahead = [at for at in free if at < first]
        behind = [at for at in free if at > last]
        moved = []
        if not ahead or (behind and behind[0] - last < first - ahead[-1]):
            self._insert(last, mark)
            for at in range(last, behind[0]):
                moved.append(self._hand_on(at, at + 1))
        else:
            self._insert(first, mark)
            for at in range(ahead[-1] + 1, first + 1):
                moved.append(self._hand_on(at, at - 1))
        return moved

    def _insert(self, at, mark):
        self._rows[at] = in_order([*self._rows[at], mark])

    def _hand_on(self, at, to):
        """Moves the last book of a shelf to the next one, or its first book to the one ahead."""
        if at < to:
            mark = self._rows[at].pop()
            self._rows[to].insert(0, mark)
        else:
            mark = self._rows[at].pop(0)
            self._rows[to].append(mark)
        return (mark, at, to)


def _check_size(size):
    if not is_whole(size, 1, MOST_BOOKS):
        raise NoSize(size)


def _check_rows(rows, sizes):
    """Refuses what is no list of rows of marks, one for each size and none longer, that rise."""
    if not isinstance(rows, (list, tuple)) or len(rows) != len(sizes):
        raise NoRow(rows)
    for row, size in zip(rows, sizes):
        if not _is_row(row) or len(row) > size:
            raise NoRow(row)
    at = first_wrong(_joined(rows))
    if at is not None:
        raise NotRising(at)


def _is_row(thing):
    return isinstance(thing, (list, tuple)) and all([isinstance(mark, Mark) for mark in thing])


def _joined(rows):
    return [mark for row in rows for mark in row]
