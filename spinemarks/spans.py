"""Spans: all marks from one mark on, up to another one that is behind them, told by the keys of both."""

from spinemarks.marks import mark_of_key

# Where there is no end: all keys are ahead of it, as letters are at most three.
END = ("zzzz",)


def span_of(marks):
    """The span of two marks: from the first one on, up to the one behind all of it, or None."""
    first, behind = marks
    return (first.key(), END if behind is None else behind.key())


def marks_of(span):
    """The first mark of the span, and the mark behind all of it, or None."""
    first, behind = span
    return (mark_of_key(first), None if behind == END else mark_of_key(behind))


def is_in(mark, span):
    """Whether the mark is in the span."""
    return span[0] <= mark.key() < span[1]


def is_empty(span):
    """Whether no mark is in the span."""
    return span[0] >= span[1]


def is_within(one, other):
    """Whether all marks of one span, which is not empty, are in the other one."""
    return other[0] <= one[0] and one[1] <= other[1]


def common_span(one, other):
    """The span of the marks that are in both, perhaps empty."""
    return (max(one[0], other[0]), min(one[1], other[1]))


def spans_without(one, other):
    """The spans, perhaps empty, of the marks of one that are ahead of the other one, and behind it."""
    return [(one[0], min(one[1], other[0])), (max(one[0], other[1]), one[1])]
