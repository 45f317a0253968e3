"""Marks put in order, and lists of marks that rise."""

from spinemarks.errors import NotRising


def order(one, other):
    """-1 where the first mark is ahead of the second, 1 where it is behind it, 0 where they are equal."""
    if one == other:
        return 0
    return -1 if one.ahead(other) else 1


def in_order(marks, falling=False):
    """The same marks as a list in which they rise, or fall, equal ones side by side."""
    if falling:
        return sorted(marks, key=_key, reverse=True)
    return sorted(marks, key=_key)


def first_wrong(marks):
    """The number of the first mark that is not behind the one straight ahead of it, or None."""
    for at in range(1, len(marks)):
        if not marks[at - 1].ahead(marks[at]):
            return at
    return None


def joined(one, other):
    """The marks that are in one of two lists that rise, or in both, as a list that rises."""
    _check_rising(one)
    _check_rising(other)
    marks = []
    for mark in in_order([*one, *other]):
        if not marks or marks[-1].ahead(mark):
            marks.append(mark)
    return marks


def place_in(marks, mark):
    """How many marks of a list that rises are ahead of the mark, and whether it is one of them."""
    _check_rising(marks)
    many = len([held for held in marks if held.ahead(mark)])
    return (many, many < len(marks) and marks[many] == mark)


def _key(mark):
    return mark.key()


def _check_rising(marks):
    at = first_wrong(marks)
    if at is not None:
        raise NotRising(at)
