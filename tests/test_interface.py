"""The names, arguments and defaults that the interface lists, each defined in its own file."""

import importlib
import inspect
import unittest

FUNCTIONS = {
    "signs": ("is_whole(thing, low, high=None)", "is_name(thing)", "is_points(thing)", "is_maker(thing)"),
    "reading": ("begins(text)", "next_signs(text)", "read_mark(text)", "goes_on(text)"),
    "order": ("order(one, other)", "in_order(marks, falling=False)", "first_wrong(marks)", "joined(one, other)",
              "place_in(marks, mark)"),
    "settled": ("turned(one, other, many)", "settles(one, other)"),
    "filed": ("filed(mark)", "unfiled(text)"),
    "counts": ("how_many(many)", "with_signs(many)"),
    "numbering": ("ahead_of(mark, many)", "number_of(mark, many)", "mark_at(number, many)"),
    "between": (
        "room(low=None, high=None, with_low=False, with_high=False)",
        "shortest(low=None, high=None, with_low=False, with_high=False)",
    ),
    "spread": (
        "many_between(many, low=None, high=None, with_low=False, with_high=False)",
        "spread(many, low=None, high=None, with_low=False, with_high=False)",
        "next_of(mark, many)", "last_before(mark, many)",
    ),
    "slips": (
        "slip_kind(mark, text)", "slipped(mark, kind, at, sign='')",
        "could_be(text, low=None, high=None, kind='other')",
    ),
    "wrong": ("bars(texts)", "row_slips(texts, kind='other')", "standing(texts)"),
    "short": ("cuts_of(mark)",),
    "shortpaper": ("shows_short(marks, many, paper)",),
    "heads": ("head_of(text)", "behind_head(text)", "least_head(text)"),
    "concord": (
        "against(one, name, other, second)", "related(one, name, other, second)", "stretches(one, other)",
        "classed_apart(one, other)",
    ),
    "ways": ("ways(part)",),
    "rules": ("first_rule()",),
    "parted": ("alike(one, other)", "parted(one, other)"),
    "houserule": ("rule_for(marks)", "shows_none(marks, thing)"),
    "borders": ("border(shelves, number)", "borders(shelves)", "sought(shelves, mark)"),
    "rowtexts": (
        "rows_of(text)", "whole_text(rows)", "marks_text(marks)", "read_marks(text)", "packed_text(marks)",
        "read_packed(text)",
    ),
    "ruletexts": (
        "rule_text(rule)", "read_rule(text)", "scheme_text(scheme)", "read_scheme(text)", "outline(scheme)",
        "read_outline(text)",
    ),
    "housetexts": ("house_text(shelves, rule, scheme)", "read_house(text)"),
}
METHODS = {
    ("marks", "Mark"): (
        "__init__(self, letters, number, points='', makers=None, year=None, copy=None)",
        "__eq__(self, other)", "__str__(self)", "__repr__(self)", "__len__(self)",
        "letters(self)", "number(self)", "points(self)", "makers(self)", "year(self)", "copy_number(self)",
        "parts(self)", "key(self)", "ahead(self, other)", "head(self)", "book(self)",
        "with_year(self, year=None)", "with_copy(self, copy=None)", "same_book(self, other)",
    ),
    ("short", "Shorts"): (
        "__init__(self, marks)", "__len__(self)", "marks(self)", "row(self)", "signs(self)", "short_of(self, mark)",
        "meant(self, text)", "put(self, mark)", "take(self, mark)", "paper(self)",
    ),
    ("classes", "Scheme"): (
        "__init__(self, rows)", "__eq__(self, other)", "__len__(self)", "names(self)", "rows(self)", "span(self, name)",
        "plain(self, name)", "holds(self, name, mark)", "chain(self, mark)", "narrowest(self, mark)",
        "around(self, name)", "inside(self, name=None)",
    ),
    ("rules", "Rule"): (
        "__init__(self, steps)", "__eq__(self, other)", "__len__(self)", "steps(self)", "order(self, one, other)",
        "in_order(self, marks)", "key_of(self)",
    ),
    ("shelves", "Shelves"): (
        "__init__(self, sizes, rows=None)", "__eq__(self, other)", "__len__(self)", "sizes(self)", "rows(self)",
        "twin(self)", "put(self, mark)", "take(self, mark)", "shelf_with(self, mark)", "grown(self, size)",
    ),
    ("desk", "Desk"): ("__init__(self)", "say(self, line)"),
}


class Interface(unittest.TestCase):
    def test_functions(self):
        for name, rows in FUNCTIONS.items():
            module = importlib.import_module(f"spinemarks.{name}")
            for row in rows:
                found = getattr(module, row.partition("(")[0])
                self.assertEqual(found.__name__ + str(inspect.signature(found)), row)
                self.assertEqual(found.__module__, module.__name__)

    def test_methods(self):
        for (name, kind), rows in METHODS.items():
            module = importlib.import_module(f"spinemarks.{name}")
            self.assertEqual(getattr(module, kind).__module__, module.__name__)
            for row in rows:
                found = vars(getattr(module, kind))[row.partition("(")[0]]
                self.assertEqual(found.__name__ + str(inspect.signature(found)), row)


if __name__ == "__main__":
    unittest.main()
