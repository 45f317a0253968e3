"""Classes of marks, and schemes of such."""

from spinemarks.errors import Crossing, NoClass, NoClasses, NoName, NotThere, Twice, Upside
from spinemarks.heads import behind_head, head_of, least_head
from spinemarks.signs import is_name
from spinemarks.spans import is_empty, is_in, is_within, span_of

MOST_CLASSES = 12


class Scheme:
    """Classes by their names, each two of them apart or one within the other; it never changes."""

    def __init__(self, rows):
        if not isinstance(rows, (list, tuple)) or len(rows) > MOST_CLASSES:
            raise NoClasses(rows)
        self._rows = {}
        self._marks = {}
        spans = {}
        for row in rows:
            name, marks = _read_class(row, self._rows)
            self._rows[name] = row
            self._marks[name] = marks
            spans[name] = span_of(marks)
        _check_crossing(spans)
        self._spans = _in_order(spans)
        self._around = _around(self._spans)

    def __eq__(self, other):
        return isinstance(other, Scheme) and self._marks == other._marks

    def __len__(self):
        return len(self._rows)

    def names(self):
        """The names of the classes, a list, as they were handed in."""
        return list(self._rows)

    def rows(self):
        """The classes, a list of tuples of name, first head and last head, as they were handed in."""
        return list(self._rows.values())

    def span(self, name):
        """The first mark that the class holds, and the first one behind all that it holds, or None."""
        if not is_name(name) or name not in self._marks:
            raise NotThere(name)
        return self._marks[name]

    def plain(self, name):
        """The first head of the class, and as last head that of fewest signs that will do, as texts."""
        self.span(name)
        _, first, last = self._rows[name]
        return (first, least_head(last))

    def holds(self, name, mark):
        """Whether the class holds the mark."""
        return is_in(mark, span_of(self.span(name)))

    def chain(self, mark):
        """The names of all classes that hold the mark, the widest first."""
        key = mark.key()
        return [name for name, (first, behind) in self._spans.items() if first <= key < behind]

    def narrowest(self, mark):
        """The name of the narrowest class that holds the mark, or None."""
        names = self.chain(mark)
        return names[-1] if names else None

    def around(self, name):
        """The names of all other classes that hold all marks of the class, the widest first."""
        self.span(name)
        return list(self._around[name])

    def inside(self, name=None):
        """The names of the classes straight within the class, or of those that lie in no other one."""
        narrowest = ()
        if name is not None:
            self.span(name)
            narrowest = (name,)
        return [other for other, names in self._around.items() if names[-1:] == narrowest]


def _read_class(row, rows):
    """The name of a class, which may not have one of these names, and the marks that bound it."""
    if not isinstance(row, tuple) or len(row) != 3:
        raise NoClass(row)
    name, first, last = row
    if not is_name(name):
        raise NoName(name)
    if name in rows:
        raise Twice(name)
    marks = (head_of(first), behind_head(last))
    if is_empty(span_of(marks)):
        raise Upside(name)
    return (name, marks)


def _check_crossing(spans):
    names = list(spans)
    for at, later in enumerate(names):
        for elder in names[:at]:
            if _cross(spans[elder], spans[later]):
                raise Crossing((elder, later))


def _cross(one, other):
    """Whether two spans have marks in common, and neither has all marks of the other one and more."""
    if one[1] <= other[0] or other[1] <= one[0]:
        return False
    return is_within(one, other) == is_within(other, one)


def _in_order(spans):
    """The spans by their first marks, and of those with the same first mark the widest first."""
    widest = sorted([(span[1], name) for name, span in spans.items()], reverse=True)
    places = sorted([(spans[name][0], place, name) for place, (_, name) in enumerate(widest)])
    return {name: spans[name] for _, _, name in places}


def _around(spans):
    """By each name the names of the classes around it, the widest first; the spans are in order."""
    around = {}
    chain = ()
    for name, span in spans.items():
        while chain and not is_within(span, spans[chain[-1]]):
            chain = chain[:-1]
        around[name] = chain
        chain = (*chain, name)
    return around
