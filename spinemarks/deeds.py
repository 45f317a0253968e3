"""What lines change of a house, which is a tuple of its shelves, its rule and its scheme.

Each deed tells the house as it is then, a new tuple with new shelves, and the rows of its answer.
"""

from spinemarks.classes import Scheme
from spinemarks.housetexts import read_house
from spinemarks.rowtexts import whole_text
from spinemarks.rules import Rule, first_rule
from spinemarks.shelves import Shelves

DONE = ("ok",)


def new_house(sizes):
    """A house with empty shelves, the first rule and no classes."""
    return (Shelves(sizes), first_rule(), Scheme([]))


def _put(house, mark):
    shelves, rule, scheme = house
    changed = shelves.twin()
    moved = changed.put(mark)
    return ((changed, rule, scheme), [f"{book} {one} {other}" for book, one, other in moved])


def _take(house, mark):
    shelves, rule, scheme = house
    changed = shelves.twin()
    number = changed.take(mark)
    return ((changed, rule, scheme), [str(number)])


def _grow(house, size):
    shelves, rule, scheme = house
    changed = shelves.twin()
    changed.grown(size)
    return ((changed, rule, scheme), DONE)


def _rule(house, steps):
    shelves, _, scheme = house
    return ((shelves, Rule(steps), scheme), DONE)


def _scheme(house, classes=()):
    shelves, rule, _ = house
    return ((shelves, rule, Scheme(classes)), DONE)


def _read(_, texts):
    house = read_house(whole_text(texts))
    return (house, [str(len(house[0]))])


DEEDS = {"put": _put, "take": _take, "grow": _grow, "rule": _rule, "scheme": _scheme, "read": _read}
