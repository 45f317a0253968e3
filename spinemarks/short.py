"""Marks cut shorter, and the shortest row of cuts of some marks that rise."""

from spinemarks.errors import Full, NoRow, NotRising, NotThere, There, TooLong
from spinemarks.marks import Mark
from spinemarks.order import first_wrong, place_in

MOST_SIGNS = 24
MOST_MARKS = 12


def cuts_of(mark):
    """All cuts of a mark, as a list that rises."""
    _check_signs(mark)
    letters, number, points, makers, year, copy = mark.parts()
    years = [None] if year is None else [None, year]
    copies = [None] if copy is None else [None, copy]
    # Each of the lists rises, and the parts come as they tell the order, so the cuts rise, too.
    return [
        Mark(letters, number, fewer, some, dated, told)
        for fewer in ["", *_beginnings(points)]
        for some in _cut_makers(makers)
        for dated in years
        for told in copies
    ]


def least_ahead(cuts, ahead, numbers):
    """For each of the cuts the least number of those ahead of it, or None where there is none.

    The cuts of the mark straight ahead have a number each, or None; both lists of cuts rise.
    """
    told = []
    least = None
    at = 0
    for cut in cuts:
        while at < len(ahead) and ahead[at].ahead(cut):
            if numbers[at] is not None and (least is None or numbers[at] < least):
                least = numbers[at]
            at += 1
        told.append(least)
    return told


class Shorts:
    """At most twelve marks that rise, and a row of cuts of them that rises with the fewest signs."""

    def __init__(self, marks):
        _check_marks(marks)
        self._keep(list(marks))

    def __len__(self):
        return len(self._marks)

    def marks(self):
        """The marks, a list."""
        return list(self._marks)

    def row(self):
        """The short row, a list."""
        return list(self._row)

    def signs(self):
        """How many signs the short row has altogether."""
        return sum([len(short) for short in self._row])

    def short_of(self, mark):
        """The mark in its place in the short row."""
        return self._row[self._place_of(mark)]

    def meant(self, text):
        """The number of the mark whose short one has this text, or None."""
        for number, short in enumerate(self._row):
            if str(short) == text:
                return number
        return None

    def put(self, mark):
        """Puts the mark in its place among them."""
        _check_signs(mark)
        at, there = place_in(self._marks, mark)
        if there:
            raise There(mark)
        if len(self._marks) == MOST_MARKS:
            raise Full(MOST_MARKS)
        self._keep([*self._marks[:at], mark, *self._marks[at:]])

    def take(self, mark):
        """Takes the mark out."""
        at = self._place_of(mark)
        self._keep(self._marks[:at] + self._marks[at + 1:])

    def paper(self):
        """For each mark how many signs are needed up to each of its cuts, a list of dicts by their texts."""
        return [{str(cut): needed for cut, needed in zip(cuts, needs)} for cuts, needs in self._needs]

    def _keep(self, marks):
        self._marks = marks
        self._needs = _needs_of(marks)
        self._row = _row_of(self._needs)

    def _place_of(self, mark):
        at, there = place_in(self._marks, mark)
        if not there:
            raise NotThere(mark)
        return at


def _check_signs(mark):
    if len(mark) > MOST_SIGNS:
        raise TooLong(mark)


def _check_marks(marks):
    if not isinstance(marks, (list, tuple)) or len(marks) > MOST_MARKS:
        raise NoRow(marks)
    if not all([isinstance(mark, Mark) for mark in marks]):
        raise NoRow(marks)
    for mark in marks:
        _check_signs(mark)
    wrong = first_wrong(marks)
    if wrong is not None:
        raise NotRising(wrong)


def _beginnings(figures):
    """The beginnings of the figures, themselves too, that don't end with a 0."""
    return [figures[:at + 1] for at, figure in enumerate(figures) if figure != "0"]


def _cut_makers(makers):
    """The first so many makers, the last one of these with a beginning of its figures."""
    cuts = [()]
    for at, maker in enumerate(makers):
        cuts += [makers[:at] + (maker[0] + figures,) for figures in _beginnings(maker[1:])]
    return cuts


def _needs_of(marks):
    """For each mark its cuts, and of each the fewest signs of rising cuts up to it, or None."""
    found = []
    for mark in marks:
        cuts = cuts_of(mark)
        least = [0] * len(cuts)
        if found:
            ahead, numbers = found[-1]
            least = least_ahead(cuts, ahead, numbers)
        needs = [None if fewest is None else fewest + len(cut) for cut, fewest in zip(cuts, least)]
        found.append((cuts, needs))
    return found


def _row_of(needs):
    """Cuts of the fewest signs, one of each mark, found from the last one to the first."""
    row = []
    for cuts, numbers in reversed(needs):
        behind = row[-1] if row else None
        choices = [
            (number, cut)
            for cut, number in zip(cuts, numbers)
            if number is not None and (behind is None or cut.ahead(behind))
        ]
        _, short = min(choices, key=_number_of)
        row.append(short)
    return row[::-1]


def _number_of(choice):
    return choice[0]
