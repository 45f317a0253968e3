"""Lines that are told to a desk: their first words, and the things that are told behind these."""

from spinemarks.errors import NoLine
from spinemarks.reading import mark_and_signs
from spinemarks.rowtexts import words_of
from spinemarks.shelves import MOST_SHELVES
from spinemarks.signs import is_name, written_number
from spinemarks.slips import KINDS

MOST_SIGNS = 12000
MOST_FIGURES = 30
# The words that are a line of their own.
BARE = ("scheme", "undo", "houses", "show", "books", "ruled", "signs")


def read_line(line):
    """The first word of the line, and the list of the things that are told behind it."""
    if not isinstance(line, str) or len(line) > MOST_SIGNS or "\n" in line:
        raise NoLine(line)
    if line in BARE:
        return (line, [])
    word, _, rest = line.partition(" ")
    things = _things(FORMS.get(word, ()), rest)
    if not things or None in things:
        raise NoLine(line)
    return (word, things)


def _things(slots, text):
    """What each slot has, of which the last one has all that is left; None where it is not as it must be."""
    things = []
    for number, slot in enumerate(slots, 1):
        held = text
        if number < len(slots):
            held, _, text = text.partition(" ")
        action = READERS[slot]
        things.append(action(held))
    return things


def _each(texts, action):
    things = [action(text) for text in texts]
    return None if None in things else things


def _name(text):
    return text if is_name(text) else None


def _number(text):
    return written_number(text) if len(text) <= MOST_FIGURES else None


def _numbers(text):
    numbers = text.split(" ")
    return _each(numbers, _number) if len(numbers) <= MOST_SHELVES else None


def _mark(text):
    return mark_and_signs(text)[0]


def _marks(text):
    marks = text.split(" / ")
    return _each(marks, _mark) if len(marks) == 2 else None


def _kind(text):
    return text if text in KINDS else None


def _text(text):
    return text if text != "" else None


def _texts(text):
    return _each(text.split(" / "), _text)


def _step(text):
    return _words(text, 2)


def _steps(text):
    return _each(text.split(" / "), _step)


def _class(text):
    return _words(text, 3)


def _classes(text):
    return _each(text.split(" / "), _class)


def _words(text, many):
    words = words_of(text, many)
    return None if words is None or "/" in words else words


READERS = {
    "name": _name, "number": _number, "numbers": _numbers, "mark": _mark, "marks": _marks, "kind": _kind,
    "text": _text, "texts": _texts, "steps": _steps, "classes": _classes,
}
# By first word the slots for the things behind it.
FORMS = {
    "house": ("name", "numbers"),
    "go": ("name",),
    "put": ("mark",),
    "take": ("mark",),
    "grow": ("number",),
    "rule": ("steps",),
    "scheme": ("classes",),
    "read": ("texts",),
    "border": ("number",),
    "sought": ("mark",),
    "where": ("mark",),
    "order": ("marks",),
    "chain": ("mark",),
    "holds": ("name",),
    "apart": ("name",),
    "parted": ("name",),
    "settles": ("marks",),
    "between": ("marks",),
    "spread": ("number", "marks"),
    "number": ("number", "mark"),
    "at": ("number", "number"),
    "after": ("number", "mark"),
    "could": ("kind", "text"),
    "wrong": ("kind", "texts"),
}
