"""The mark of a number among all marks of at most so many signs, in their order."""

from spinemarks.marks import mark_of_key
from spinemarks.signs import FIGURES, SMALL
from spinemarks.tails import LAST_FIGURES, counted


def nth_mark(tails, number, most):
    """The mark that has this number, from 0 on, among all of at most so many signs, where there is one."""
    return mark_of_key(nth_key(tails, number, most))


def nth_key(tails, number, most):
    """The key of the mark that has this number.

    Part by part is found. What is left of the number then is the number of the mark among those
    that are alike in the parts ahead, with what is left of the signs.
    """
    letters, number, left = _letters_at(tails, number, most)
    whole, number, left = _number_at(tails, number, left)
    points, number, left = _points_at(tails, number, left)
    makers, number, left = _makers_at(tails, number, left)
    year, number, _ = _year_at(tails, number, left)
    # No copy is the first one, and is told by 0.
    copy = 0 if number == 0 else number + 1
    return (letters, whole, points, makers, year, copy)


def _letters_at(tails, number, left):
    letters = ""
    ended = 0
    while number >= ended:
        number -= ended
        left -= 1
        letter, number = divmod(number, tails.in_letters(len(letters) + 1, left))
        letters += SMALL[letter]
        ended = tails.behind_letters(left)
    return (letters, number, left)


def _number_at(tails, number, left):
    power = 1
    left -= 1
    # All numbers of fewer figures are ahead.
    while number >= 9 * power * tails.behind_number(left):
        number -= 9 * power * tails.behind_number(left)
        power *= 10
        left -= 1
    more, number = divmod(number, tails.behind_number(left))
    return (power + more, number, left)


def _points_at(tails, number, left):
    none = counted(tails.behind_makers[0], left)
    if number < none:
        return ("", number, left)
    return _figures_at(tails.behind_makers[0], tails.in_points, number - none, left - 1)


def _figures_at(rest, more, number, left):
    """Figures, where behind these comes the rest, and within them more."""
    figures = ""
    ended = 0
    while number >= ended:
        number -= ended
        left -= 1
        inner = LAST_FIGURES * more[left]
        if number < inner:
            # They don't end behind a 0, so it has fewer marks than the other figures.
            figures += "0"
            ended = 0
        else:
            ended = rest[left]
            figure, number = divmod(number - inner, inner + ended)
            figures += FIGURES[figure + 1]
    return (figures, number, left)


def _makers_at(tails, number, left):
    makers = []
    years = tails.behind_makers[-1]
    # Behind three makers no number is left that is as great.
    while number >= years[left]:
        rest = tails.behind_makers[len(makers) + 1]
        more = tails.in_maker[len(makers)]
        left -= 2
        letter, number = divmod(number - years[left + 2], LAST_FIGURES * more[left])
        figures, number, left = _figures_at(rest, more, number, left)
        makers.append(SMALL[letter] + figures)
    return (tuple(makers), number, left)


def _year_at(tails, number, left):
    none = counted(tails.behind_year, left)
    if number < none:
        return (0, number, left)
    left -= 5
    more, number = divmod(number - none, counted(tails.behind_year, left))
    return (1000 + more, number, left)
