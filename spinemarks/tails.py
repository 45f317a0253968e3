"""How many ways there are to go on with a mark behind each of its parts.

Each table is a list: for each number of signs that are left, from 0 on, it has the number of
ways to go on from there to the end of a mark with at most so many signs. Of letters and numbers,
which are few, just the numbers of ways that are asked for are worked out.
"""

from spinemarks.states import MOST_LETTERS, MOST_MAKERS

# The last one of points, or of a maker's figures, is one of so many: it is no 0.
LAST_FIGURES = 9
# Of how many figures a number is, and how many numbers are.
NUMBERS = ((1, 9), (2, 90), (3, 900), (4, 9000))


def counted(table, left):
    """How many ways a table has for so many signs left, which may be fewer than none."""
    return table[left] if left >= 0 else 0


class Tails:
    """The tables behind the parts of a mark, and within them, for at most so many signs.

    Within points, and within the figures of a maker, each table is for one or more figures that
    are still to come, of which the last one is told.
    """

    def __init__(self, most):
        self.most = most
        self.behind_year = _copies(most)
        years = _with_more(self.behind_year, 2000, self.behind_year, 5)
        # By how many makers are read ahead, so the last table is that behind three of them.
        self.behind_makers = [years]
        self.in_maker = []
        for _ in range(MOST_MAKERS):
            self.in_maker.insert(0, _figures(self.behind_makers[0]))
            self.behind_makers.insert(0, _with_more(years, 26 * LAST_FIGURES, self.in_maker[0], 2))
        self.in_points = _figures(self.behind_makers[0])

    def behind_number(self, left):
        """How many ways there are behind the number, where points may follow."""
        if left < 1:
            return counted(self.behind_makers[0], left)
        return self.behind_makers[0][left] + LAST_FIGURES * self.in_points[left - 1]

    def behind_letters(self, left):
        """How many ways there are behind the last letter, which a number of one to four figures follows."""
        return sum([many * self.behind_number(left - figures) for figures, many in NUMBERS])

    def in_letters(self, many, left):
        """How many ways there are behind so many letters, where more may follow."""
        ways = self.behind_letters(left) if many > 0 else 0
        if many < MOST_LETTERS:
            return ways + 26 * self.in_letters(many + 1, left - 1)
        return ways

    def marks(self, most):
        """How many marks have at most so many signs."""
        return self.in_letters(0, most)


def _copies(most):
    """No copy, or one: a blank, `c.` and the figures of a number from 2 on."""
    table = [1, 1, 1, 1]
    ways = 0
    for _ in range(most - 3):
        # As many as numbers from 1 on: 1 itself is no copy, but there may be none.
        ways = 10 * ways + 9
        table.append(ways)
    return table[:most + 1]


def _with_more(ended, choices, more, signs):
    """To go on where a part has ended, or by one of the choices, of so many signs, and then as in more."""
    return ended[:signs] + [ways + choices * later for ways, later in zip(ended[signs:], more)]


def _figures(rest):
    """One figure or more, the last one told, and then the rest."""
    table = []
    more = 0
    for ways in rest:
        table.append(more)
        more = ways + 10 * more
    return table
