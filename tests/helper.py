"""What the tests hold the program against: the document's words once more, written in another way."""

import bisect
import functools
import itertools
import re
import unittest

from spinemarks.errors import Full, NoMark, NotRising
from spinemarks.marks import Mark

SIGNS = " .0123456789abcdefghijklmnopqrstuvwxyz"

MARK = re.compile(
    r"([a-z]{1,3})([1-9][0-9]{0,3})(?:\.([0-9]*[1-9]))?"
    r"((?: [a-z][0-9]*[1-9]){0,3})(?: ([12][0-9]{3}))?(?: c\.([2-9]|[1-9][0-9]+))?"
)

# Each text that begins a mark becomes one by one of these.
ENDINGS = ("", "1", "2", "0", "00", "000", ".2", "a1", "c.2")

# Marks with and without each part, near each other and far away.
TEXTS = (
    "a1", "a1 c.2", "a9", "a9999", "q1", "q7", "q9", "q12", "q76", "q90", "q1234", "q5678", "q9999",
    "aa1", "az5.05", "b1", "zzz9999", "qa76", "qa76.9", "qa76.09", "qa76.9 k52", "qa76.9 k52 w61",
    "qa76.9 k52 w61 1998", "qa76.9 k52 w61 1998 c.2", "qa76.9 k52 w61 y7 1998 c.12", "qa76 c.2",
    "qa76 c.10", "qa76 c5", "qa76 c5 c.5", "qa76 b5", "qa76 d5", "qa76 1998", "qa76 1998 c.3",
    "qa76 2999", "qa76 1000", "qa76 k5 k5 k5", "qa76 k05", "qa76 c1 c1 c1 c.11", "ccc1 c1 1111 c.11",
    "q1.0001 k1 c.30", "q1.10203 x09 y0008",
)

NO_TEXTS = (None, True, False, 0, 7, -1, [], ["q1"], ("q1",), {}, {"q1": "q1"}, Mark("q", 1), NoMark(3))


class Case(unittest.TestCase):
    """A test that asks for refusals by their classes and the very things."""

    def refuses(self, kind, thing, action, *things, **named):
        field = {NoMark: "at", NotRising: "at", Full: "many"}.get(kind, "found")
        with self.assertRaises(Exception) as caught:
            action(*things, **named)
        self.assertIs(type(caught.exception), kind)
        held = getattr(caught.exception, field)
        if type(thing) is int:
            self.assertIs(type(held), int)
            self.assertEqual(held, thing)
        else:
            self.assertIs(held, thing)


def is_mark(text):
    return MARK.fullmatch(text) is not None


def begins_mark(text):
    return any(is_mark(text + ending) for ending in ENDINGS)


def first_signs(text):
    """How many first signs of the text begin a mark, at most; each beginning of these does, too."""
    return bisect.bisect_left(range(1, len(text) + 1), True, key=lambda many: not begins_mark(text[:many]))


def parts_of(text):
    letters, number, points, makers, year, copy = MARK.fullmatch(text).groups()
    return (letters, int(number), points or "", tuple(makers.split()), year and int(year), copy and int(copy))


def mark_of(text):
    """The mark of a text, not read by the program."""
    return Mark(*parts_of(text))


def marks_of(*texts):
    return [mark_of(text) for text in texts]


def compared(one, other):
    """-1, 0 or 1, as two texts of marks come by the words of the order of marks."""
    for first, second in zip(parts_of(one), parts_of(other)):
        if first == second:
            continue
        if isinstance(first, tuple):
            return compared_makers(first, second)
        if isinstance(first, str):
            return compared_signs(first, second)
        if first is None or second is None:
            return -1 if first is None else 1
        return -1 if first < second else 1
    return 0


def compared_makers(first, second):
    for one, other in zip(first, second):
        if one[0] != other[0]:
            return -1 if one[0] < other[0] else 1
        if one != other:
            return compared_signs(one[1:], other[1:])
    return -1 if len(first) < len(second) else 1


def compared_signs(first, second):
    for one, other in zip(first, second):
        if one != other:
            return -1 if one < other else 1
    return (len(first) > len(second)) - (len(first) < len(second))


def put_in_order(texts):
    return sorted(texts, key=functools.cmp_to_key(compared))


def texts_behind(text, most):
    """All texts of marks that begin with the text and have at most so many signs."""
    found = [text] if is_mark(text) else []
    if len(text) < most:
        for sign in SIGNS:
            if begins_mark(text + sign):
                found += texts_behind(text + sign, most)
    return found


@functools.cache
def texts_of_at_most_three():
    """All texts of marks of at most three signs, in their order, found by trying all texts."""
    texts = []
    for many in range(4):
        texts += ["".join(signs) for signs in itertools.product(SIGNS, repeat=many)]
    return put_in_order([text for text in texts if is_mark(text)])


def marred(text, signs):
    """All texts that come of the text where a sign is wrong, lost or extra, or two are turned."""
    found = []
    for at in range(len(text) + 1):
        found += [text[:at] + sign + text[at:] for sign in signs]
        if at < len(text):
            found += [text[:at] + sign + text[at + 1:] for sign in signs]
            found.append(text[:at] + text[at + 1:])
            found.append(text[:at] + text[at:at + 2][::-1] + text[at + 2:])
    return found


def figure_texts(most):
    """All texts of one figure up to so many of which the last is no 0."""
    found = []
    for many in range(1, most + 1):
        found += ["".join(signs) for signs in itertools.product("0123456789", repeat=many) if signs[-1] != "0"]
    return found


def behind_heads(heads, most):
    """The heads, and all texts of at most so many signs of marks that have one of them."""
    found = list(heads)
    shortest = min([len(head) for head in heads], default=most)
    makers = [" " + letter + text for letter in SIGNS[12:] for text in figure_texts(most - shortest - 2)]
    last = found
    for _ in range(3):
        last = [text + maker for text in last for maker in makers if len(text) + len(maker) <= most]
        found = found + last
    found += [f"{text} {year}" for text in found if len(text) + 5 <= most for year in range(1000, 3000)]
    return found + [f"{text} c.{copy}" for text in found for copy in range(2, 10 ** max(0, most - len(text) - 3))]


def texts_of(head, most):
    """All texts of at most so many signs of marks with the letters and the number of a head without points."""
    heads = [head] + [f"{head}.{points}" for points in figure_texts(most - len(head) - 1)]
    return behind_heads(heads, most)


class Shelf:
    """Texts of marks in their order, in which stretches are looked up."""

    key = staticmethod(functools.cmp_to_key(compared))

    def __init__(self, texts):
        self.texts = put_in_order(texts)
        self.keys = [self.key(text) for text in self.texts]

    def stretch(self, low=None, high=None, with_low=False, with_high=False):
        """The texts that lie in the stretch of the texts of two marks."""
        start = 0
        end = len(self.texts)
        if low is not None:
            start = (bisect.bisect_left if with_low else bisect.bisect_right)(self.keys, self.key(low))
        if high is not None:
            end = (bisect.bisect_right if with_high else bisect.bisect_left)(self.keys, self.key(high))
        return self.texts[start:end]


def mark_or_none(text):
    return None if text is None else mark_of(text)


def texts_told(marks):
    """The texts of a list of marks that was told."""
    assert type(marks) is list and all(isinstance(mark, Mark) for mark in marks)
    return [str(mark) for mark in marks]


def slip_between(text, other):
    """The kind of the slip that leads from one text to another, or None, by trying all places."""
    if len(text) == len(other):
        if sum(one != second for one, second in zip(text, other)) == 1:
            return "other"
        turned = [text[:at] + text[at + 1] + text[at] + text[at + 2:] for at in range(len(text) - 1)]
        return "turned" if text != other and other in turned else None
    if other in [text[:at] + text[at + 1:] for at in range(len(text))]:
        return "lost"
    return "extra" if text in [other[:at] + other[at + 1:] for at in range(len(other))] else None
