"""A desk, which has houses and answers lines of text."""

from spinemarks.deeds import DEEDS, new_house
from spinemarks.errors import NoBack, NoHouse, NoStart, Twice
from spinemarks.lines import read_line
from spinemarks.questions import HOUSE_QUESTIONS, MARK_QUESTIONS


class Desk:
    """Houses by their names, each of shelves, a rule and a scheme, one of them at hand."""

    def __init__(self):
        # Neither these dicts nor the houses in them change any more: a line makes new ones.
        self._houses = {}
        self._name = None
        self._past = []

    def say(self, line):
        """The answer to the line, a text."""
        word, things = read_line(line)
        if self._name is None and word != "house" and word != "undo":
            raise NoStart()
        rows = self._rows(word, things)
        return " / ".join(rows) or "none"

    def _rows(self, word, things):
        """The rows of the answer."""
        if word in MARK_QUESTIONS:
            action = MARK_QUESTIONS[word]
            return action(*things)
        if word in HOUSE_QUESTIONS:
            action = HOUSE_QUESTIONS[word]
            return action(self._houses, self._houses[self._name], *things)
        if word in DEEDS:
            action = DEEDS[word]
            house, rows = action(self._houses[self._name], *things)
            self._keep(self._name, house)
            return rows
        self._turn(word, things)
        return ["ok"]

    def _turn(self, word, things):
        """Has another house at hand: a new one, one that was there, or the one that was."""
        if word == "house":
            name, sizes = things
            if name in self._houses:
                raise Twice(name)
            self._keep(name, new_house(sizes))
        elif word == "go":
            name = things[0]
            if name not in self._houses:
                raise NoHouse(name)
            self._keep(name, self._houses[name])
        else:
            if not self._past:
                raise NoBack()
            self._houses, self._name = self._past.pop()

    def _keep(self, name, house):
        """Has the house by its name, and at hand; what was there ahead of that can be taken back."""
        self._past.append((self._houses, self._name))
        self._houses = {**self._houses, name: house}
        self._name = name
