"""Marks filed as texts that compare as the marks do."""

from spinemarks.errors import MarkError, NoText
from spinemarks.marks import Mark
from spinemarks.signs import is_figures

NO_YEAR = "0000"
NO_COPY = "00"


def filed(mark):
    """The text as which a mark is filed whose copy has at most 99 figures."""
    letters, number, points, makers, year, copy = mark.parts()
    head = letters.ljust(3) + str(number).zfill(4) + points
    dated = NO_YEAR if year is None else str(year)
    return " ".join([head, *makers, dated + _filed_copy(copy)])


def unfiled(text):
    """The mark that is filed so."""
    if not isinstance(text, str):
        raise NoText(text)
    try:
        return _mark_of(text)
    except MarkError:
        raise NoText(text) from None


def _filed_copy(copy):
    if copy is None:
        return NO_COPY
    figures = str(copy)
    return _filed_count(figures) + figures


def _filed_count(figures):
    return str(len(figures)).zfill(2)


def _mark_of(text):
    number = text[3:7]
    points, *words = text[7:].split(" ")
    if not is_figures(number) or not words:
        raise NoText(text)
    *makers, last = words
    year = last[:4]
    if not is_figures(year):
        raise NoText(text)
    copy = _copy_of(last[4:])
    return Mark(text[:3].rstrip(" "), int(number), points, makers, None if year == NO_YEAR else int(year), copy)


def _copy_of(text):
    if text == NO_COPY:
        return None
    figures = text[2:]
    if not is_figures(figures) or figures.startswith("0") or text[:2] != _filed_count(figures):
        raise NoText(text)
    return int(figures)
