"""The refusals: each one a class of its own, of one of two families.

Their texts tell no thing that was found: a number may have more figures than Python shows.
"""


class MarkError(ValueError):
    """Any refusal of what is not as it is asked for; itself made of a text."""


class Missing(LookupError):
    """Any refusal of what is asked for and is not there; itself made of a text."""


class NoLetters(MarkError):
    """It is no text of one to three small letters."""

    def __init__(self, found):
        MarkError.__init__(self, "no letters of a mark")
        self.found = found


class NoNumber(MarkError):
    """It is no number as it is asked for."""

    def __init__(self, found):
        MarkError.__init__(self, "no such number")
        self.found = found


class NoPoints(MarkError):
    """It is no points of a mark."""

    def __init__(self, found):
        MarkError.__init__(self, "no points of a mark")
        self.found = found


class NoMakers(MarkError):
    """It is no list of at most three makers."""

    def __init__(self, found):
        MarkError.__init__(self, "no makers of a mark")
        self.found = found


class NoMaker(MarkError):
    """It is no maker."""

    def __init__(self, found):
        MarkError.__init__(self, "no maker of a mark")
        self.found = found


class NoYear(MarkError):
    """It is no year of a mark."""

    def __init__(self, found):
        MarkError.__init__(self, "no year of a mark")
        self.found = found


class NoCopy(MarkError):
    """It is no number of a copy."""

    def __init__(self, found):
        MarkError.__init__(self, "no copy of a mark")
        self.found = found


class NoText(MarkError):
    """It is no text, or none as it is asked for."""

    def __init__(self, found):
        MarkError.__init__(self, "no such text")
        self.found = found


class NoBound(MarkError):
    """It is no whole number from 0 to 60."""

    def __init__(self, found):
        MarkError.__init__(self, "no bound")
        self.found = found


class NoPlace(MarkError):
    """It is no place of a sign at which such a slip can be."""

    def __init__(self, found):
        MarkError.__init__(self, "no such place")
        self.found = found


class TooLong(MarkError):
    """It has more signs than may be."""

    def __init__(self, found):
        MarkError.__init__(self, "too many signs")
        self.found = found


class Alike(MarkError):
    """It is equal to the other mark."""

    def __init__(self, found):
        MarkError.__init__(self, "the marks are equal")
        self.found = found


class NoRoom(MarkError):
    """No mark lies between them, or too few do."""

    def __init__(self, found):
        MarkError.__init__(self, "no room")
        self.found = found


class NoKind(MarkError):
    """It is no kind of slip."""

    def __init__(self, found):
        MarkError.__init__(self, "no kind of slip")
        self.found = found


class NoClasses(MarkError):
    """It is no list of at most twelve classes."""

    def __init__(self, found):
        MarkError.__init__(self, "no list of classes")
        self.found = found


class NoClass(MarkError):
    """It is no tuple of a name and two heads."""

    def __init__(self, found):
        MarkError.__init__(self, "no class")
        self.found = found


class NoName(MarkError):
    """It is no name."""

    def __init__(self, found):
        MarkError.__init__(self, "no name")
        self.found = found


class Twice(MarkError):
    """It is there already, further ahead."""

    def __init__(self, found):
        MarkError.__init__(self, "there twice")
        self.found = found


class NoHead(MarkError):
    """It is no text of a head."""

    def __init__(self, found):
        MarkError.__init__(self, "no text of a head")
        self.found = found


class Upside(MarkError):
    """The class of this name holds no mark."""

    def __init__(self, found):
        MarkError.__init__(self, "a class that holds no mark")
        self.found = found


class Crossing(MarkError):
    """The classes of these names cross, or hold the same marks."""

    def __init__(self, found):
        MarkError.__init__(self, "crossing classes")
        self.found = found


class NoSteps(MarkError):
    """It is no list of one to six steps."""

    def __init__(self, found):
        MarkError.__init__(self, "no list of steps")
        self.found = found


class NoStep(MarkError):
    """It is no tuple of a part and a way."""

    def __init__(self, found):
        MarkError.__init__(self, "no step")
        self.found = found


class NoPart(MarkError):
    """It is no part of marks."""

    def __init__(self, found):
        MarkError.__init__(self, "no part of marks")
        self.found = found


class NoWay(MarkError):
    """It is no way in which this part is ordered."""

    def __init__(self, found):
        MarkError.__init__(self, "no way of this part")
        self.found = found


class NoSizes(MarkError):
    """It is no list of one to eight sizes."""

    def __init__(self, found):
        MarkError.__init__(self, "no list of sizes")
        self.found = found


class NoSize(MarkError):
    """It is no size of a shelf."""

    def __init__(self, found):
        MarkError.__init__(self, "no size of a shelf")
        self.found = found


class There(MarkError):
    """The mark is there already."""

    def __init__(self, found):
        MarkError.__init__(self, "there already")
        self.found = found


class NoRow(MarkError):
    """It is no such row, or no such list of rows or marks."""

    def __init__(self, found):
        MarkError.__init__(self, "no such row")
        self.found = found


class NoLine(MarkError):
    """It is no line that a desk takes."""

    def __init__(self, found):
        MarkError.__init__(self, "no line")
        self.found = found


class NoMark(MarkError):
    """The text is no mark; so many of its first signs begin one."""

    def __init__(self, at):
        MarkError.__init__(self, "no mark")
        self.at = at


class NotRising(MarkError):
    """The mark of this number is not behind the one ahead of it."""

    def __init__(self, at):
        MarkError.__init__(self, "the marks do not rise")
        self.at = at


class Full(MarkError):
    """So many are there, and there is place for no more."""

    def __init__(self, many):
        MarkError.__init__(self, "full")
        self.many = many


class NotThere(Missing):
    """It is not there."""

    def __init__(self, found):
        Missing.__init__(self, "not there")
        self.found = found


class NoShelf(Missing):
    """It is no number of a shelf."""

    def __init__(self, found):
        Missing.__init__(self, "no such shelf")
        self.found = found


class NoHouse(Missing):
    """There is no house by this name."""

    def __init__(self, found):
        Missing.__init__(self, "no such house")
        self.found = found


class NoBack(Missing):
    """There is nothing to take back."""

    def __init__(self):
        Missing.__init__(self, "nothing to take back")


class NoStart(Missing):
    """No house is at hand."""

    def __init__(self):
        Missing.__init__(self, "no house at hand")
