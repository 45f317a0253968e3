"""How many marks there are of so many signs."""

from spinemarks.errors import NoBound
from spinemarks.signs import is_bound
from spinemarks.tails import Tails


def how_many(many):
    """How many marks have at most so many signs."""
    if not is_bound(many):
        raise NoBound(many)
    return Tails(many).marks(many)


def with_signs(many):
    """How many marks have just so many signs."""
    fewer = how_many(many - 1) if is_bound(many) and many > 0 else 0
    return how_many(many) - fewer
