"""The signs of which marks are made, and the things that stand as parts of a mark."""

SMALL = "abcdefghijklmnopqrstuvwxyz"
FIGURES = "0123456789"


def is_number(thing):
    """Whether the thing is a whole number."""
    return isinstance(thing, int) and not isinstance(thing, bool)


def is_whole(thing, low, high=None):
    """Whether the thing is a whole number from low on, up to high where there is one."""
    return is_number(thing) and low <= thing and (high is None or thing <= high)


def is_figures(text):
    """Whether the text is one of one figure or more."""
    # A text of figures may have such beyond ASCII, which are none here; so it is with letters.
    return text.isascii() and text.isdigit()


def is_letters(thing, most):
    """Whether the thing is a text of one small letter up to so many."""
    return isinstance(thing, str) and len(thing) <= most and thing.isascii() and thing.isalpha() and thing.islower()


def is_name(thing):
    """Whether the thing is a name, a text of one to six small letters."""
    return is_letters(thing, 6)


def is_points(thing):
    """Whether the thing is points of a mark; a text without signs stands for none."""
    return isinstance(thing, str) and (thing == "" or _is_ended(thing))


def is_maker(thing):
    """Whether the thing is a maker: a small letter and figures behind it, the last one no 0."""
    return isinstance(thing, str) and len(thing) > 1 and thing[0] in SMALL and _is_ended(thing[1:])


def is_bound(thing):
    """Whether the thing is a bound of how many signs marks have."""
    return is_whole(thing, 0, 60)


def written_number(text):
    """The number that the text writes by its figures, without a 0 ahead but for 0 itself, or None."""
    if not is_figures(text) or (text.startswith("0") and text != "0"):
        return None
    return int(text)


def common_signs(one, other):
    """How many first signs two texts have in common, or first things two lists."""
    many = 0
    for first, second in zip(one, other):
        if first != second:
            return many
        many += 1
    return many


def _is_ended(text):
    return is_figures(text) and text[-1] != "0"
