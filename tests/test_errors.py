"""The refusals and their two families: point [8]."""

import unittest

from spinemarks import errors
from spinemarks.errors import MarkError, Missing

FOUND = (
    "NoLetters", "NoNumber", "NoPoints", "NoMakers", "NoMaker", "NoYear", "NoCopy", "NoText", "NoBound",
    "NoPlace", "TooLong", "Alike", "NoRoom", "NoKind", "NoClasses", "NoClass", "NoName", "Twice", "NoHead",
    "Upside", "Crossing", "NoSteps", "NoStep", "NoPart", "NoWay", "NoSizes", "NoSize", "There", "NoRow",
    "NoLine",
)
OTHER = {"NoMark": "at", "NotRising": "at", "Full": "many"}
MISSING = ("NotThere", "NoShelf", "NoHouse")
BARE = ("NoBack", "NoStart")


def fields():
    """Each class that is made of a thing, and its field."""
    rows = [(name, "found") for name in FOUND + MISSING] + list(OTHER.items())
    return [(getattr(errors, name), field) for name, field in rows]


class Families(unittest.TestCase):
    def test_the_families_stand_under_errors_of_python(self):
        self.assertEqual(MarkError.__bases__, (ValueError,))
        self.assertEqual(Missing.__bases__, (LookupError,))

    def test_the_families_are_made_of_a_text(self):
        for family in (MarkError, Missing):
            for text in ("no such mark", "", "q1"):
                self.assertEqual(str(family(text)), text)

    def test_each_refusal_stands_straight_under_its_family(self):
        for name in FOUND + tuple(OTHER):
            self.assertEqual(getattr(errors, name).__bases__, (MarkError,), name)
        for name in MISSING + BARE:
            self.assertEqual(getattr(errors, name).__bases__, (Missing,), name)

    def test_each_refusal_is_defined_in_this_file_by_its_name(self):
        for name in FOUND + tuple(OTHER) + MISSING + BARE + ("MarkError", "Missing"):
            self.assertEqual(getattr(errors, name).__name__, name)
            self.assertEqual(getattr(errors, name).__module__, "spinemarks.errors")


class Fields(unittest.TestCase):
    def test_each_refusal_keeps_the_very_thing(self):
        things = (None, True, 7, -1, 10 ** 5000, "q1", "", [], ["q1"], ("q1", 1), {}, {"a": []}, MarkError("q1"))
        for kind, field in fields():
            for thing in things:
                error = kind(thing)
                self.assertIs(getattr(error, field), thing)
                self.assertIsInstance(str(error), str)

    def test_each_refusal_takes_its_thing_by_the_name_of_its_field(self):
        for kind, field in fields():
            thing = ["q1"]
            self.assertIs(getattr(kind(**{field: thing}), field), thing)

    def test_each_refusal_is_made_of_just_one_thing(self):
        for kind, _ in fields():
            self.assertRaises(TypeError, kind)
            self.assertRaises(TypeError, kind, 1, 2)

    def test_some_refusals_are_made_of_nothing(self):
        for name in BARE:
            kind = getattr(errors, name)
            self.assertIsInstance(kind(), Missing)
            self.assertRaises(TypeError, kind, 1)


if __name__ == "__main__":
    unittest.main()
