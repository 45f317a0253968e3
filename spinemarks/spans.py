"""Spans: all marks from one mark on, up to another one, which is behind them, or None for no end."""


def is_in(mark, span):
    """Whether the mark is in the span."""
    first, behind = span
    return not mark.ahead(first) and (behind is None or mark.ahead(behind))


def is_empty(span):
    """Whether no mark is in the span."""
    first, behind = span
    return behind is not None and not first.ahead(behind)


def is_within(one, other):
    """Whether all marks of one span, which is not empty, are in the other one."""
    first, behind = one
    return is_in(first, other) and _earlier_end(behind, other[1]) == behind


def common_span(one, other):
    """The span of the marks that are in both, perhaps empty."""
    return (_later_first(one[0], other[0]), _earlier_end(one[1], other[1]))


def spans_without(one, other):
    """The spans, perhaps empty, of the marks of one that are ahead of the other one, and behind it."""
    first, behind = one
    spans = [(first, _earlier_end(behind, other[0]))]
    if other[1] is not None:
        spans.append((_later_first(first, other[1]), behind))
    return spans


def _later_first(one, other):
    return other if one.ahead(other) else one


def _earlier_end(one, other):
    if one is None:
        return other
    return one if other is None or one.ahead(other) else other
