"""Whole texts, made of rows with a line feed behind each, and marks written so."""

from spinemarks.errors import NoRow, NoText
from spinemarks.reading import mark_and_signs
from spinemarks.signs import common_signs, is_figures


def rows_of(text):
    """The rows of the whole text, a list."""
    return read_each(text, _row)


def whole_text(rows):
    """The whole text that has these rows."""
    return "".join([f"{row}\n" for row in rows])


def marks_text(marks):
    """A whole text with the text of each mark as a row."""
    return whole_text([str(mark) for mark in marks])


def read_marks(text):
    """The marks of which the whole text is made, a list."""
    return read_each(text, _mark)


def packed_text(marks):
    """A whole text that has of each mark only how many signs the mark ahead begins with, too, and the other ones."""
    texts = [str(mark) for mark in marks]
    return whole_text([_packed(ahead, text) for ahead, text in zip(["", *texts], texts)])


def read_packed(text):
    """The marks of which the packed text is made, a list."""
    return read_each(text, _packed_mark)


def read_each(text, action):
    """What the action makes of each row and of the list of what it made of the rows ahead; where None, refused."""
    if not isinstance(text, str):
        raise NoText(text)
    *rows, left = text.split("\n")
    told = []
    for row in rows:
        thing = action(row, told)
        if thing is None:
            raise NoRow(len(told))
        told.append(thing)
    if left != "":
        raise NoRow(len(told))
    return told


def words_of(row, many):
    """The so many words of which the row is made, a tuple, or None where it is not."""
    words = tuple(row.split(" "))
    return words if len(words) == many and "" not in words else None


def _row(row, _):
    return row


def _mark(row, _):
    return mark_and_signs(row)[0]


def _packed(ahead, text):
    many = common_signs(ahead, text)
    return f"{many} {text[many:]}"


def _packed_mark(row, told):
    number, _, rest = row.partition(" ")
    if not is_figures(number):
        return None
    ahead = str(told[-1]) if told else ""
    text = ahead[:int(number)] + rest
    # The same mark may be written so by other numbers, too, of which one alone is right.
    return _mark(text, told) if _packed(ahead, text) == row else None
