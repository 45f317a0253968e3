"""Rules and schemes written as whole texts."""

from spinemarks.classes import Scheme
from spinemarks.errors import NoRow
from spinemarks.rowtexts import read_each, whole_text, words_of
from spinemarks.rules import Rule


def rule_text(rule):
    """A whole text with a row for each step of the rule."""
    return whole_text([" ".join(step) for step in rule.steps()])


def read_rule(text):
    """The rule that is written so."""
    return Rule(read_each(text, _two_words))


def scheme_text(scheme):
    """A whole text with a row for each class of the scheme, as they were handed in."""
    return whole_text([" ".join(row) for row in scheme.rows()])


def read_scheme(text):
    """The scheme that is written so."""
    return Scheme(read_each(text, _three_words))


def outline(scheme):
    """A whole text that is the same for two schemes just where they are equal."""
    return whole_text(_outline_rows(scheme))


def read_outline(text):
    """The scheme whose outline it is."""
    rows = read_each(text, _four_words)
    scheme = Scheme([row[1:] for row in rows])
    for number, (row, own) in enumerate(zip(rows, _outline_rows(scheme))):
        if " ".join(row) != own:
            raise NoRow(number)
    return scheme


def _outline_rows(scheme):
    """A row for each class, in the order of their first marks, of those with the same one the widest first."""
    rows = []
    for name in scheme.names():
        start, _ = scheme.span(name)
        many = len(scheme.around(name))
        first, last = scheme.plain(name)
        rows.append((start.key(), many, f"{many} {name} {first} {last}"))
    return [row for _, _, row in sorted(rows)]


def _two_words(row, _):
    return words_of(row, 2)


def _three_words(row, _):
    return words_of(row, 3)


def _four_words(row, _):
    return words_of(row, 4)
