"""Slips: one sign of a mark's text is other, lost or extra, or two neighbours are turned."""

from spinemarks.errors import NoKind, NoPlace, NoText, TooLong
from spinemarks.marks import mark_of_key
from spinemarks.mends import Mends
from spinemarks.reading import key_written
from spinemarks.signs import common_signs, is_whole

KINDS = ("other", "lost", "extra", "turned")
MOST_SIGNS = 40
# The last place of a slip is so many ahead of the end of the text.
AHEAD_OF_END = {"other": 1, "lost": 1, "extra": 0, "turned": 2}


def slip_kind(mark, text):
    """The kind of the slip by which the text comes of the mark's, or None."""
    if not isinstance(text, str):
        raise NoText(text)
    own = str(mark)
    at = common_signs(own, text)
    if len(text) < len(own):
        return "lost" if _slipped(own, "lost", at, "") == text else None
    if len(text) > len(own):
        return "extra" if _slipped(text, "lost", at, "") == own else None
    if at == len(own):
        return None
    if own[at + 1:] == text[at + 1:]:
        return "other"
    return "turned" if _slipped(own, "turned", at, "") == text else None


def slipped(mark, kind, at, sign=""):
    """The text that comes of the mark's by the slip of this kind at this place."""
    check_kind(kind)
    text = str(mark)
    if not is_whole(at, 0, len(text) - AHEAD_OF_END[kind]):
        raise NoPlace(at)
    if _takes_sign(kind) and (not isinstance(sign, str) or len(sign) != 1):
        raise NoText(sign)
    if kind == "turned" and text[at] == text[at + 1]:
        raise NoPlace(at)
    if kind == "other" and text[at] == sign:
        raise NoText(sign)
    return _slipped(text, kind, at, sign)


def could_be(text, low=None, high=None, kind="other"):
    """The marks behind low and ahead of high of whose texts the text comes by one slip of the kind."""
    if not isinstance(text, str):
        raise NoText(text)
    if len(text) > MOST_SIGNS:
        raise TooLong(text)
    if kind is not None:
        check_kind(kind)
    mends = Mends(text)
    texts = []
    for word in KINDS if kind is None else (kind,):
        texts += mends.texts(word)
    # By their keys, since of most texts no mark need be made where the neighbours are near.
    keys = _between([key_written(source) for source in sorted(set(texts))], low, high)
    return [mark_of_key(key) for key in sorted(keys)]


def check_kind(kind):
    """Refuses what is no kind's word."""
    if kind not in KINDS:
        raise NoKind(kind)


def _takes_sign(kind):
    return kind == "other" or kind == "extra"


def _slipped(text, kind, at, sign):
    if kind == "other":
        return text[:at] + sign + text[at + 1:]
    if kind == "lost":
        return text[:at] + text[at + 1:]
    if kind == "extra":
        return text[:at] + sign + text[at:]
    return text[:at] + text[at:at + 2][::-1] + text[at + 2:]


def _between(keys, low, high):
    """The keys of marks behind low and ahead of high, where there is one."""
    if low is not None:
        least = low.key()
        keys = [key for key in keys if key > least]
    if high is not None:
        most = high.key()
        keys = [key for key in keys if key < most]
    return keys
