"""Whether a paper shows that no short row of some marks has fewer signs than a number."""

from spinemarks.short import cuts_of, least_ahead
from spinemarks.signs import is_number


def shows_short(marks, many, paper):
    """Whether the paper shows that each row of cuts of the marks that rises has so many signs or more."""
    if not is_number(many) or not isinstance(paper, (list, tuple)) or len(paper) != len(marks):
        return False
    rows = [cuts_of(mark) for mark in marks]
    if not all([_is_of_cuts(needed, cuts) for needed, cuts in zip(paper, rows)]):
        return False
    # Without marks a row has no signs.
    numbers = [0]
    ahead = []
    for needed, cuts in zip(paper, rows):
        least = least_ahead(cuts, ahead, numbers) if ahead else [0] * len(cuts)
        numbers = [needed[str(cut)] for cut in cuts]
        ahead = cuts
        if not all([_is_proved(*row) for row in zip(numbers, least, cuts)]):
            return False
    return all([number is None or number >= many for number in numbers])


def _is_of_cuts(needed, cuts):
    """Whether it is a dict with whole numbers or None by the texts of just these cuts."""
    if not isinstance(needed, dict) or len(needed) != len(cuts):
        return False
    if not all([str(cut) in needed for cut in cuts]):
        return False
    return all([number is None or is_number(number) for number in needed.values()])


def _is_proved(number, least, cut):
    """Whether no list of cuts that ends with this one can have fewer signs than the number."""
    return least is None or (number is not None and number <= least + len(cut))
