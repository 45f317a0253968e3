"""Classes of marks, and schemes of such."""

from spinemarks.errors import Crossing, NoClass, NoClasses, NoName, NotThere, Twice, Upside
from spinemarks.heads import behind_head, head_of, least_head
from spinemarks.signs import is_name
from spinemarks.spans import common_span, is_empty, is_in, is_within

MOST_CLASSES = 12


class Scheme:
    """Classes by their names, each two of them apart or one within the other; it never changes."""

    def __init__(self, rows):
        if not isinstance(rows, (list, tuple)) or len(rows) > MOST_CLASSES:
            raise NoClasses(rows)
        self._spans = {}
        for row in rows:
            name, span = _read_class(row, self._spans)
            self._spans[name] = span
        _check_crossing(self._spans)
        self._rows = {row[0]: row for row in rows}
        self._order = _in_order(self._spans)

    def __eq__(self, other):
        return isinstance(other, Scheme) and self._spans == other._spans

    def __len__(self):
        return len(self._rows)

    def names(self):
        """The names of the classes, a list, as they were handed in."""
        return list(self._rows)

    def rows(self):
        """The classes, a list of tuples of name, first head and last head, as they were handed in."""
        return list(self._rows.values())

    def span(self, name):
        """The first mark that the class holds, and the first one behind all that it holds, or None."""
        if not is_name(name) or name not in self._spans:
            raise NotThere(name)
        return self._spans[name]

    def plain(self, name):
        """The first head of the class, and as last head that of fewest signs that will do, as texts."""
        self.span(name)
        _, first, last = self._rows[name]
        return (first, least_head(last))

    def holds(self, name, mark):
        """Whether the class holds the mark."""
        return is_in(mark, self.span(name))

    def chain(self, mark):
        """The names of all classes that hold the mark, the widest first."""
        return [name for name in self._order if is_in(mark, self._spans[name])]

    def narrowest(self, mark):
        """The name of the narrowest class that holds the mark, or None."""
        names = self.chain(mark)
        return names[-1] if names else None

    def around(self, name):
        """The names of all other classes that hold all marks of the class, the widest first."""
        span = self.span(name)
        return [other for other in self._order if other != name and is_within(span, self._spans[other])]

    def inside(self, name=None):
        """The names of the classes straight within the class, or of those that lie in no other one."""
        narrowest = []
        if name is not None:
            self.span(name)
            narrowest = [name]
        return [other for other in self._order if self.around(other)[-1:] == narrowest]


def _read_class(row, spans):
    """The name and the span of a class, which may not have one of these names."""
    if not isinstance(row, tuple) or len(row) != 3:
        raise NoClass(row)
    name, first, last = row
    if not is_name(name):
        raise NoName(name)
    if name in spans:
        raise Twice(name)
    span = (head_of(first), behind_head(last))
    if is_empty(span):
        raise Upside(name)
    return (name, span)


def _check_crossing(spans):
    names = list(spans)
    for at, later in enumerate(names):
        for elder in names[:at]:
            if _cross(spans[elder], spans[later]):
                raise Crossing((elder, later))


def _cross(one, other):
    """Whether two spans have marks in common, and neither has all marks of the other one and more."""
    if is_empty(common_span(one, other)):
        return False
    return is_within(one, other) == is_within(other, one)


def _in_order(spans):
    """The names by the first marks, and of classes with the same first mark the widest first."""
    places = []
    for name, span in spans.items():
        around = [other for other in spans.values() if is_within(span, other)]
        places.append((span[0].key(), len(around), name))
    return [name for _, _, name in sorted(places)]
