"""Rows of texts that should be marks' and rise: what bars that, and where one sign may be wrong."""

from spinemarks.errors import NoRow, NoText, TooLong
from spinemarks.order import first_wrong
from spinemarks.reading import mark_and_signs
from spinemarks.slips import MOST_SIGNS, check_kind, could_be


def bars(texts):
    """What keeps the row from rising: texts that are no marks', and marks not behind those ahead of them."""
    found = []
    before = None
    for number, (mark, at) in enumerate(_read_row(texts)):
        if mark is None:
            found.append(("text", number, at))
        elif before is not None and not before.ahead(mark):
            found.append(("order", number))
        before = mark
    return found


def row_slips(texts, kind="other"):
    """Each number of a text, and a mark, by one slip of which the row may have come to its bars."""
    marks = [mark for mark, _ in _read_row(texts)]
    if kind is not None:
        check_kind(kind)
    if _rise(marks):
        return []
    found = []
    for number, text in enumerate(texts):
        if _rise(marks[:number] + marks[number + 1:]):
            low = marks[number - 1] if number > 0 else None
            high = marks[number + 1] if number + 1 < len(marks) else None
            found += [(number, mark) for mark in could_be(text, low, high, kind)]
    return found


def standing(texts):
    """The numbers of as many texts as can stay, and lists of numbers of each of which one at most can."""
    chains = {}
    for number, (mark, _) in enumerate(_read_row(texts)):
        if mark is not None:
            ahead = [chain for other, chain in chains.values() if other.ahead(mark)]
            chains[number] = (mark, max(ahead, key=len, default=[]) + [number])
    longest = max([chain for _, chain in chains.values()], key=len, default=[])
    # Of two marks that rise the later one ends a longer chain, so those of equal length don't.
    lists = [_ending_chains(chains, many + 1) for many in range(len(longest))]
    return (longest, lists)


def _ending_chains(chains, many):
    """The numbers of the texts that end a chain of so many at most."""
    return [number for number, (_, chain) in chains.items() if len(chain) == many]


def _rise(marks):
    return all([mark is not None for mark in marks]) and first_wrong(marks) is None


def _read_row(texts):
    """For each text of a row its mark, or None, and how many first signs begin a mark."""
    if not isinstance(texts, (list, tuple)) or not 2 <= len(texts) <= 12:
        raise NoRow(texts)
    for text in texts:
        if not isinstance(text, str):
            raise NoText(text)
        if len(text) > MOST_SIGNS:
            raise TooLong(text)
    return [mark_and_signs(text) for text in texts]
