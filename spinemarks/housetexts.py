"""Houses, that is shelves, a rule and a scheme, written as whole texts."""

from spinemarks.classes import Scheme
from spinemarks.errors import NoRow
from spinemarks.reading import mark_and_signs
from spinemarks.rowtexts import read_each, whole_text, words_of
from spinemarks.rules import Rule
from spinemarks.ruletexts import rule_text, scheme_text
from spinemarks.shelves import MOST_SHELVES, Shelves
from spinemarks.signs import written_number


def house_text(shelves, rule, scheme):
    """A whole text of the sizes and the books of the shelves, the rule and the scheme."""
    sizes = [str(size) for size in shelves.sizes()]
    books = [f"{number} {mark}" for number, row in enumerate(shelves.rows()) for mark in row]
    rows = [" ".join(["shelves", *sizes]), *books, "rule"]
    return whole_text(rows) + rule_text(rule) + whole_text(["scheme"]) + scheme_text(scheme)


def read_house(text):
    """The shelves, the rule and the scheme that are written so."""
    rows = read_each(text, _house_row)
    if "scheme" not in [kind for kind, _ in rows]:
        raise NoRow(len(rows))
    _, sizes = rows[0]
    books = [[] for _ in sizes]
    for number, mark in _things(rows, "book"):
        books[number].append(mark)
    return (Shelves(sizes, books), Rule(_things(rows, "step")), Scheme(_things(rows, "class")))


def _things(rows, kind):
    return [thing for held, thing in rows if held == kind]


def _house_row(row, told):
    """A tuple of the row's kind and what it tells, or None; its kind hangs on that of the row ahead."""
    if not told:
        return _sizes_row(row)
    kind, _ = told[-1]
    if kind == "shelves" or kind == "book":
        return ("rule", None) if row == "rule" else _book_row(row, told)
    if kind == "rule" or kind == "step":
        return ("scheme", None) if row == "scheme" else _words_row("step", row, 2)
    return _words_row("class", row, 3)


def _sizes_row(row):
    word, *words = row.split(" ")
    sizes = [written_number(text) for text in words]
    if word != "shelves" or not 1 <= len(sizes) <= MOST_SHELVES or None in sizes:
        return None
    return ("shelves", sizes)


def _book_row(row, told):
    word, _, text = row.partition(" ")
    number = written_number(word)
    mark, _ = mark_and_signs(text)
    if number is None or mark is None:
        return None
    _, sizes = told[0]
    kind, ahead = told[-1]
    least = ahead[0] if kind == "book" else 0
    return ("book", (number, mark)) if least <= number < len(sizes) else None


def _words_row(kind, row, many):
    words = words_of(row, many)
    return None if words is None else (kind, words)
