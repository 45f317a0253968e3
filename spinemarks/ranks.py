"""How many marks of at most so many signs are ahead of a mark."""

from spinemarks.signs import SMALL
from spinemarks.tails import LAST_FIGURES, counted


def rank(tails, mark, most):
    """How many marks of at most so many signs, no more than the tails are for, are ahead of the mark."""
    letters, number, points, makers, year, copy = mark.parts()
    left = most
    ahead = _ahead_by_letters(tails, letters, left)
    left -= len(letters)
    ahead += _ahead_by_number(tails, number, left)
    left -= len(str(number))
    if points:
        ahead += _ahead_by_points(tails, points, left)
        left -= 1 + len(points)
    ahead += _ahead_by_makers(tails, makers, left)
    left -= sum([1 + len(maker) for maker in makers])
    if year is not None:
        ahead += _ahead_by_year(tails, year, left)
        left -= 5
    if copy is not None:
        ahead += _ahead_by_copy(tails, copy, left)
    return ahead


def _ahead_by_letters(tails, letters, left):
    ahead = 0
    for at, letter in enumerate(letters):
        if at > 0:
            # The letters may end here.
            ahead += tails.behind_letters(left)
        left -= 1
        if letter != "a":
            ahead += SMALL.index(letter) * tails.in_letters(at + 1, left)
    return ahead


def _ahead_by_number(tails, number, left):
    ahead = 0
    power = 1
    while power <= number:
        left -= 1
        ahead += (min(number, 10 * power) - power) * tails.behind_number(left)
        power *= 10
    return ahead


def _ahead_by_points(tails, points, left):
    none = counted(tails.behind_makers[0], left)
    return none + _ahead_by_figures(tails.behind_makers[0], tails.in_points, points, left - 1)


def _ahead_by_figures(rest, more, figures, left):
    """Ahead by their figures, where behind these comes the rest, and within them more."""
    ahead = 0
    ended = 0
    within = figures[:max(0, left)]
    for sign in within:
        # They may end ahead of this figure, but not with a 0.
        ahead += ended
        left -= 1
        ended = 0
        if sign != "0":
            figure = int(sign)
            ended = rest[left]
            ahead += figure * LAST_FIGURES * more[left] + (figure - 1) * ended
    return ahead + ended if len(within) < len(figures) else ahead


def _ahead_by_makers(tails, makers, left):
    ahead = 0
    for at, maker in enumerate(makers):
        rest = tails.behind_makers[at + 1]
        more = tails.in_maker[at]
        # No more makers; then a letter that is ahead of this one.
        ahead += counted(tails.behind_makers[-1], left)
        ahead += SMALL.index(maker[0]) * LAST_FIGURES * counted(more, left - 2)
        ahead += _ahead_by_figures(rest, more, maker[1:], left - 2)
        left -= 1 + len(maker)
    return ahead


def _ahead_by_year(tails, year, left):
    return counted(tails.behind_year, left) + (year - 1000) * counted(tails.behind_year, left - 5)


def _ahead_by_copy(tails, copy, left):
    # No copy, and all from 2 on up to this one, as far as they have few enough signs.
    return min(copy - 1, counted(tails.behind_year, left))
