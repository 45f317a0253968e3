"""Classes and schemes held against each other: the shortest marks that tell them apart."""

from spinemarks.between import shortest
from spinemarks.marks import Mark
from spinemarks.order import in_order
from spinemarks.spans import common_span, is_empty, is_within, spans_without


def against(one, name, other, second):
    """The shortest marks that the first class alone holds, that both hold, and that the second alone holds."""
    first = one.span(name)
    last = other.span(second)
    return (
        _shortest_in(spans_without(first, last)),
        _shortest_in([common_span(first, last)]),
        _shortest_in(spans_without(last, first)),
    )


def related(one, name, other, second):
    """How the first class lies to the second, as a word."""
    first = one.span(name)
    last = other.span(second)
    if first == last:
        return "same"
    if is_within(first, last):
        return "within"
    if is_within(last, first):
        return "round"
    return "apart" if is_empty(common_span(first, last)) else "crossing"


def stretches(one, other):
    """The marks from which on other classes hold the marks, with the names of both schemes' classes."""
    starts = [Mark("a", 1)]
    for scheme in (one, other):
        for name in scheme.names():
            starts += [mark for mark in scheme.span(name) if mark is not None]
    rows = []
    for mark in in_order(starts):
        row = (mark, one.chain(mark), other.chain(mark))
        if not rows or rows[-1][1:] != row[1:]:
            rows.append(row)
    return rows


def classed_apart(one, other):
    """The shortest mark that the two schemes class otherwise, or None."""
    rows = stretches(one, other)
    ends = [row[0] for row in rows[1:]] + [None]
    spans = [(mark, behind) for (mark, names, others), behind in zip(rows, ends) if names != others]
    return _shortest_in(spans)


def _shortest_in(spans):
    """Of the marks of fewest signs in any of the spans the first one, or None."""
    marks = [shortest(first, behind, True) for first, behind in spans if not is_empty((first, behind))]
    return min(marks, key=_by_signs, default=None)


def _by_signs(mark):
    return (len(mark), mark.key())
