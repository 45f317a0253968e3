"""What all marks from one mark to another one have in common at their beginning."""

from spinemarks.marks import mark_of_key
from spinemarks.signs import common_signs

# The shortest parts, as keys have them, and the shortest makers.
PARTS = ("a", 1, "", (), 0, 0)
MAKERS = ("a1", "a1", "a1")


class Beginning:
    """The first parts, makers and figures that two marks have in common, which all marks between them have.

    With the shortest ones in the place of these, marks are in the same order, and are easier to count.
    """

    def __init__(self, low, high):
        first = low.key()
        second = high.key()
        many = common_signs(first, second)
        self._parts = first[:many]
        self._makers = ()
        # What the points, or the next maker, begins with, and what stands for that.
        self._begun = ""
        self._short = ""
        if many == 2:
            # A figure that both have stays, as points may end with it.
            self._begun = first[2][:max(0, common_signs(first[2], second[2]) - 1)]
        if many == 3:
            self._makers = first[3][:common_signs(first[3], second[3])]
            makers = [key[3][len(self._makers):][:1] for key in (first, second)]
            self._share_maker(*makers)

    def shortened(self, mark):
        """A mark from the one to the other with the shortest beginning."""
        parts = PARTS[:len(self._parts)]
        makers = MAKERS[:len(self._makers)]
        return mark_of_key(_replaced(mark.key(), parts, makers, self._begun, self._short))

    def restored(self, key):
        """The mark whose shortened one has this key."""
        return mark_of_key(_replaced(key, self._parts, self._makers, self._short, self._begun))

    def _share_maker(self, one, other):
        """Looks for what the next makers, tuples of one or none, begin with."""
        signs = common_signs(one[0], other[0]) if one and other else 0
        if signs > 0:
            # The letter may be replaced, but a figure that both have stays, as above.
            self._begun = one[0][:max(1, signs - 1)]
            self._short = "a"


def _replaced(key, parts, makers, old, new):
    """The key with these parts, makers, and this beginning of what follows in the place of its own ones."""
    many = len(parts)
    values = [*parts, *key[many:]]
    if many == 2:
        values[2] = new + key[2][len(old):]
    if many == 3:
        rest = key[3][len(makers):]
        if old != "":
            rest = (new + rest[0][len(old):], *rest[1:])
        values[3] = (*makers, *rest)
    return values
