"""Marks: what stands on the back of a book."""

from spinemarks.errors import NoCopy, NoLetters, NoMaker, NoMakers, NoNumber, NoPoints, NoYear
from spinemarks.signs import is_letters, is_maker, is_points, is_whole

PARTS = ("letters", "number", "points", "makers", "year", "copy")


class Mark:
    """A mark of six parts, which never changes."""

    def __init__(self, letters, number, points="", makers=None, year=None, copy=None):
        if not is_letters(letters, 3):
            raise NoLetters(letters)
        if not is_whole(number, 1, 9999):
            raise NoNumber(number)
        if not is_points(points):
            raise NoPoints(points)
        kept = _kept_makers(makers)
        if year is not None and not is_whole(year, 1000, 2999):
            raise NoYear(year)
        if copy is not None and not is_whole(copy, 2):
            raise NoCopy(copy)
        self._parts = (letters, number, points, kept, year, copy)
        self._text = _text_of(self._parts)

    def __eq__(self, other):
        return isinstance(other, Mark) and self._parts == other._parts

    def __str__(self):
        return str(self._text)

    def __repr__(self):
        return f"<{self._text}>"

    def __len__(self):
        return len(self._text)

    def letters(self):
        """Its letters, a text."""
        return self._parts[0]

    def number(self):
        """Its number."""
        return self._parts[1]

    def points(self):
        """Its points, a text, without signs where it has none."""
        return self._parts[2]

    def makers(self):
        """Its makers, a tuple of texts."""
        return self._parts[3]

    def year(self):
        """Its year, or None."""
        return self._parts[4]

    def copy_number(self):
        """The number of its copy, or None."""
        return self._parts[5]

    def parts(self):
        """All six parts, a tuple."""
        return self._parts

    def key(self):
        """A tuple that compares with those of other marks as the marks do."""
        letters, number, points, makers, year, copy = self._parts
        # No year and no copy are 0, which is ahead of all of them.
        return (letters, number, points, makers, year or 0, copy or 0)

    def ahead(self, other):
        """Whether it is ahead of the other mark."""
        return self.key() < other.key()

    def head(self):
        """The mark with its letters, number and points alone."""
        letters, number, points, _, _, _ = self._parts
        return Mark(letters, number, points)

    def book(self):
        """The mark as it is, but without a copy."""
        return self.with_copy()

    def with_year(self, year=None):
        """The mark as it is, but with this year."""
        letters, number, points, makers, _, copy = self._parts
        return Mark(letters, number, points, makers, year, copy)

    def with_copy(self, copy=None):
        """The mark as it is, but with this copy."""
        letters, number, points, makers, year, _ = self._parts
        return Mark(letters, number, points, makers, year, copy)

    def same_book(self, other):
        """Whether it and the other mark are alike but for their copies."""
        return self._parts[:5] == other._parts[:5]


def mark_of_key(key):
    """The mark that has this key."""
    letters, number, points, makers, year, copy = key
    return Mark(letters, number, points, makers, year or None, copy or None)


def _kept_makers(makers):
    if makers is None:
        return ()
    if not isinstance(makers, (list, tuple)) or len(makers) > 3:
        raise NoMakers(makers)
    for maker in makers:
        if not is_maker(maker):
            raise NoMaker(maker)
    return tuple(makers)


def _text_of(parts):
    letters, number, points, makers, year, copy = parts
    head = f"{letters}{number}.{points}" if points else f"{letters}{number}"
    words = [head, *makers]
    if year is not None:
        words.append(str(year))
    if copy is not None:
        words.append(f"c.{copy}")
    return " ".join(words)
