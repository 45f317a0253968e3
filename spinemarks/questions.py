"""What lines ask; each question tells the rows of its answer.

Those of the house at hand are told all houses by their names, and this one: a tuple of its shelves,
its rule and its scheme. Those of marks are told nothing but the things of the line.
"""

from spinemarks.between import shortest
from spinemarks.borders import border, sought
from spinemarks.concord import classed_apart
from spinemarks.errors import NoHouse
from spinemarks.housetexts import house_text
from spinemarks.numbering import mark_at, number_of
from spinemarks.parted import parted
from spinemarks.rowtexts import rows_of
from spinemarks.settled import settles
from spinemarks.short import Shorts
from spinemarks.slips import could_be
from spinemarks.spans import is_in, span_of
from spinemarks.spread import next_of, spread
from spinemarks.wrong import row_slips

# The places of what a house is made of.
SHELVES = 0
RULE = 1
SCHEME = 2
ORDERS = {-1: "ahead", 0: "same", 1: "behind"}


def _houses(houses, _):
    return list(houses)


def _show(_, house):
    return rows_of(house_text(*house))


def _books(_, house):
    return _texts(_marks(house))


def _ruled(_, house):
    return _texts(house[RULE].in_order(_marks(house)))


def _border(_, house, number):
    return _row_or_none(border(house[SHELVES], number))


def _sought(_, house, mark):
    return _row_or_none(sought(house[SHELVES], mark))


def _where(_, house, mark):
    return [str(house[SHELVES].shelf_with(mark))]


def _order(_, house, marks):
    return [ORDERS[house[RULE].order(*marks)]]


def _chain(_, house, mark):
    return house[SCHEME].chain(mark)


def _holds(_, house, name):
    span = span_of(house[SCHEME].span(name))
    return _texts([mark for mark in _marks(house) if is_in(mark, span)])


def _apart(houses, house, name):
    other = _house_by(houses, name)
    return _row_or_none(classed_apart(house[SCHEME], other[SCHEME]))


def _parted(houses, house, name):
    other = _house_by(houses, name)
    marks = parted(house[RULE], other[RULE])
    return [] if marks is None else _texts(marks)


def _signs(_, house):
    return [str(Shorts(_marks(house)).signs())]


def _settles(marks):
    sign, many, part = settles(*marks)
    return [f"{ORDERS[sign]} {many} {part}"]


def _between(marks):
    return [str(shortest(*marks))]


def _spread(many, marks):
    return _texts(spread(many, *marks))


def _number(many, mark):
    return [str(number_of(mark, many))]


def _at(number, many):
    return [str(mark_at(number, many))]


def _after(many, mark):
    return _row_or_none(next_of(mark, many))


def _could(kind, text):
    return _texts(could_be(text, kind=kind))


def _wrong(kind, texts):
    return [f"{number} {mark}" for number, mark in row_slips(texts, kind)]


def _marks(house):
    """All marks of the house, as they stand."""
    return [mark for row in house[SHELVES].rows() for mark in row]


def _house_by(houses, name):
    if name not in houses:
        raise NoHouse(name)
    return houses[name]


def _texts(marks):
    return [str(mark) for mark in marks]


def _row_or_none(thing):
    return [] if thing is None else [str(thing)]


HOUSE_QUESTIONS = {
    "houses": _houses,
    "show": _show,
    "books": _books,
    "ruled": _ruled,
    "border": _border,
    "sought": _sought,
    "where": _where,
    "order": _order,
    "chain": _chain,
    "holds": _holds,
    "apart": _apart,
    "parted": _parted,
    "signs": _signs,
}
MARK_QUESTIONS = {
    "settles": _settles,
    "between": _between,
    "spread": _spread,
    "number": _number,
    "at": _at,
    "after": _after,
    "could": _could,
    "wrong": _wrong,
}
