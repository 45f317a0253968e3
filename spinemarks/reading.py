"""Marks read from texts, and the signs with which they go on."""

from spinemarks.errors import NoMark, NoText
from spinemarks.marks import mark_of_key
from spinemarks.signs import FIGURES
from spinemarks.states import ALL_SIGNS, ENDLESS, START, STEPS, ending, step

# A text that begins a mark has more signs only where many figures stand in a row. To read such a
# row sign by sign takes long, but in shorter texts it takes longer to look for its end.
MOST_WITHOUT_RUNS = 40


def begins(text):
    """Whether the text begins a mark."""
    many, _ = _walked(text)
    return many == len(text)


def next_signs(text):
    """The signs that may go on behind the text, a list, rising."""
    many, state = _walked(text)
    if many < len(text):
        return []
    return [sign for sign in ALL_SIGNS if step(state, sign) is not None]


def read_mark(text):
    """The mark whose text it is."""
    mark, many = mark_and_signs(text)
    if mark is None:
        raise NoMark(many)
    return mark


def mark_and_signs(text):
    """The mark whose text it is, or None, and how many first signs begin a mark, at most."""
    many, state = _walked(text)
    if many < len(text) or ending(state) != "":
        return (None, many)
    return (mark_of_key(key_written(text)), many)


def goes_on(text):
    """A mark of as few signs as can be that begins so, or None."""
    many, state = _walked(text)
    if many < len(text):
        return None
    return mark_of_key(key_written(text + ending(state)))


def key_written(text):
    """The key of the mark of a text that is surely one."""
    head, *words = text.split(" ")
    head, _, points = head.partition(".")
    letters = head.rstrip(FIGURES)
    makers = []
    year = 0
    copy = 0
    for word in words:
        if word[0] in FIGURES:
            year = int(word)
        elif word[1] == ".":
            copy = int(word[2:])
        else:
            makers.append(word)
    return (letters, int(head[len(letters):]), points, tuple(makers), year, copy)


def _walked(text):
    """How many first signs begin a mark, at most, and the state behind these."""
    if not isinstance(text, str):
        raise NoText(text)
    has_runs = len(text) > MOST_WITHOUT_RUNS
    place, many = START
    at = 0
    while at < len(text):
        if has_runs and place in ENDLESS:
            at = _last_figure(text, at)
        action = STEPS[place]
        following = action(many, text[at])
        if following is None:
            return (at, (place, many))
        place, many = following
        at += 1
    return (at, (place, many))


def _last_figure(text, at):
    """The place of the last one of the figures that stand from this place on, or the place itself."""
    rest = text[at:]
    return at + max(0, len(rest) - len(rest.lstrip(FIGURES)) - 1)
