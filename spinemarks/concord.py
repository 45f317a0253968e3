"""Classes and schemes held against each other: the shortest marks that tell them apart."""

from spinemarks.between import shortest
from spinemarks.marks import Mark, mark_of_key
from spinemarks.spans import END, common_span, is_empty, is_within, marks_of, span_of, spans_without


def against(one, name, other, second):
    """The shortest marks that the first class alone holds, that both hold, and that the second alone holds."""
    first = span_of(one.span(name))
    last = span_of(other.span(second))
    return (
        _shortest_in(spans_without(first, last)),
        _shortest_in([common_span(first, last)]),
        _shortest_in(spans_without(last, first)),
    )


def related(one, name, other, second):
    """How the first class lies to the second, as a word."""
    first = span_of(one.span(name))
    last = span_of(other.span(second))
    if first == last:
        return "same"
    if is_within(first, last):
        return "within"
    if is_within(last, first):
        return "round"
    return "apart" if is_empty(common_span(first, last)) else "crossing"


def stretches(one, other):
    """The marks from which on other classes hold the marks, with the names of both schemes' classes."""
    starts = [Mark("a", 1).key()]
    for scheme in (one, other):
        for name in scheme.names():
            starts += [mark.key() for mark in scheme.span(name) if mark is not None]
    # At each of these marks a class begins or ends, so the names differ from those ahead of it.
    marks = [mark_of_key(key) for key in sorted(set(starts))]
    return [(mark, one.chain(mark), other.chain(mark)) for mark in marks]


def classed_apart(one, other):
    """The shortest mark that the two schemes class otherwise, or None."""
    rows = stretches(one, other)
    ends = [mark.key() for mark, _, _ in rows[1:]] + [END]
    spans = []
    for (mark, names, others), behind in zip(rows, ends):
        first = mark.key()
        if names != others and spans and spans[-1][1] == first:
            spans[-1] = (spans[-1][0], behind)
        elif names != others:
            spans.append((first, behind))
    return _shortest_in(spans)


def _shortest_in(spans):
    """Of the marks of fewest signs in any of the spans the first one, or None."""
    bounds = [marks_of(span) for span in spans if not is_empty(span)]
    return min([shortest(first, behind, True) for first, behind in bounds], key=_by_signs, default=None)


def _by_signs(mark):
    return (len(mark), mark.key())
