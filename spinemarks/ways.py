"""The ways in which a house may order a part of marks."""

from spinemarks.errors import NoPart


def ways(part):
    """The words of the ways in which the part is ordered, a list."""
    words = [word for held, word in VALUES if held == part]
    if not words:
        raise NoPart(part)
    return words


def value_of(step, part):
    """What compares with those of other marks as the step, of part and way, orders the marks, by their part."""
    action = VALUES[step]
    return action(part)


def compared(one, other):
    """-1 where the first one of two values, or of two tuples of such, is ahead, 1 where it is behind, else 0."""
    if one == other:
        return 0
    return -1 if one < other else 1


def _as_it_is(part):
    return part


def _fewer_first(part):
    return (len(part), part)


def _by_figures(number):
    # No year and no copy are the text without signs, which is ahead of all.
    return "" if number is None else str(number)


def _by_size(figures):
    # Not by int: Python reads no number of some thousand figures.
    text = figures.lstrip("0")
    return (len(text), text, len(figures))


def _none_behind(figures):
    return (figures == "", figures)


def _makers_by_size(makers):
    return tuple([(maker[0], _by_size(maker[1:])) for maker in makers])


def _rising(number):
    return number or 0


def _falling(number):
    return -(number or 0)


def _rising_none_behind(number):
    return (number is None, number or 0)


# By part and way, in the order in which the ways of each part are told.
VALUES = {
    ("letters", "words"): _as_it_is,
    ("letters", "short"): _fewer_first,
    ("number", "whole"): _as_it_is,
    ("number", "figures"): _by_figures,
    ("points", "decimal"): _as_it_is,
    ("points", "whole"): _by_size,
    ("points", "late"): _none_behind,
    ("makers", "decimal"): _as_it_is,
    ("makers", "whole"): _makers_by_size,
    ("makers", "few"): _fewer_first,
    ("year", "rising"): _rising,
    ("year", "falling"): _falling,
    ("year", "late"): _rising_none_behind,
    ("year", "figures"): _by_figures,
    ("copy", "rising"): _rising,
    ("copy", "falling"): _falling,
    ("copy", "figures"): _by_figures,
}
