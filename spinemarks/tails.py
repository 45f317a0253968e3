"""How many ways there are to go on with a mark behind each of its parts.

Each table is a list: for each number of signs that are left, from 0 on, it has the number of
ways to go on from there to the end of a mark with at most so many signs. Of letters, which are
few, just the numbers of ways that are asked for are worked out.
"""

from spinemarks.states import MOST_LETTERS, MOST_MAKERS


def counted(table, left):
    """How many ways a table has for so many signs left, which may be fewer than none."""
    return table[left] if left >= 0 else 0


class Tails:
    """The tables behind the parts of a mark, and within them, for at most so many signs."""

    def __init__(self, most):
        self.most = most
        self.behind_year = _copies(most)
        years = _with_more(self.behind_year, 2000, self.behind_year, 5)
        # By how many makers are read ahead, so the last table is that behind three of them.
        self.behind_makers = [years]
        self.in_maker = []
        for _ in range(MOST_MAKERS):
            self.in_maker.insert(0, _figures(self.behind_makers[0]))
            self.behind_makers.insert(0, _with_more(years, 26, self.in_maker[0], 2))
        self.in_points = _figures(self.behind_makers[0])
        self.behind_number = _with_more(self.behind_makers[0], 1, self.in_points, 1)

    def behind_letters(self, left):
        """How many ways there are behind the last letter, which a number of one to four figures follows."""
        return sum([9 * 10 ** more * counted(self.behind_number, left - 1 - more) for more in range(4)])

    def in_letters(self, many, left):
        """How many ways there are behind so many letters, where more may follow."""
        ways = self.behind_letters(left) if many > 0 else 0
        if many < MOST_LETTERS:
            return ways + 26 * self.in_letters(many + 1, left - 1)
        return ways

    def marks(self, most):
        """How many marks have at most so many signs."""
        return self.in_letters(0, most)


def _copies(most):
    """No copy, or one: a blank, `c.` and the figures of a number from 2 on."""
    table = []
    ways = 0
    for left in range(most + 1):
        if left > 3:
            # As many as numbers from 1 on: 1 itself is no copy, but there may be none.
            ways = 10 * ways + 9
        table.append(ways or 1)
    return table


def _with_more(ended, choices, more, signs):
    """To go on where a part has ended, or by one of the choices, of so many signs, and then as in more."""
    return [ways + choices * later for ways, later in zip(ended, [0] * signs + more)]


def _figures(rest):
    """One figure or more, the last one no 0, and then the rest."""
    table = [0]
    more = 0
    for ways in rest[:-1]:
        more = 9 * ways + 10 * more
        table.append(more)
    return table
