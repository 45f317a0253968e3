"""How many ways there are to go on with a mark behind each of its parts.

Each table is a list: for each number of signs that are left, from 0 on, it has the number of
ways to go on from there to the end of a mark with at most so many signs.
"""

from spinemarks.states import MOST_MAKERS


def counted(table, left):
    """How many ways a table has for so many signs left, which may be fewer than none."""
    return table[left] if left >= 0 else 0


class Tails:
    """The tables behind the parts of a mark, and within them, for at most so many signs."""

    def __init__(self, most):
        self.most = most
        self.behind_year = _copies(most)
        years = _with_more(self.behind_year, 2000, self.behind_year, 5)
        # By how many makers are read ahead, so the last table is that behind three of them.
        self.behind_makers = [years]
        self.in_maker = []
        for _ in range(MOST_MAKERS):
            self.in_maker.insert(0, _figures(self.behind_makers[0]))
            self.behind_makers.insert(0, _with_more(years, 26, self.in_maker[0], 2))
        self.in_points = _figures(self.behind_makers[0])
        self.behind_number = _with_more(self.behind_makers[0], 1, self.in_points, 1)
        numbers = [_numbers(self.behind_number, left) for left in range(most + 1)]
        two = _with_more(numbers, 26, numbers, 1)
        one = _with_more(numbers, 26, two, 1)
        # By how many letters are read; ahead of the first one none may end.
        self.in_letters = [_with_more([0] * (most + 1), 26, one, 1), one, two, numbers]
        self.behind_letters = numbers

    def marks(self, most):
        """How many marks have at most so many signs."""
        return self.in_letters[0][most]


def _copies(most):
    """No copy, or one: a blank, `c.` and the figures of a number from 2 on."""
    table = []
    power = 1
    for left in range(most + 1):
        if left > 3:
            power *= 10
        # 0 and 1 are numbers of few enough figures, too, but no copies.
        table.append(power - 1 if left > 3 else 1)
    return table


def _with_more(ended, choices, more, signs):
    """To go on where a part has ended, or by one of the choices, of so many signs, and then as in more."""
    return [ended[left] + choices * counted(more, left - signs) for left in range(len(ended))]


def _figures(rest):
    """One figure or more, the last one no 0, and then the rest."""
    table = []
    for left in range(len(rest)):
        table.append(9 * counted(rest, left - 1) + 10 * counted(table, left - 1))
    return table


def _numbers(rest, left):
    """A number of one to four figures, and then the rest, in so many signs."""
    return sum([9 * 10 ** more * counted(rest, left - 1 - more) for more in range(4)])
