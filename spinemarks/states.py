"""What is known of a mark when its first signs are read, and what each sign makes of it.

A state is a tuple of a place, as a word, and a number, which says:
- letters, number, year: how many signs of this part are read.
- point: a point is read, and perhaps figures of which the last is 0; points: the last is no 0.
- blank, c: a blank, perhaps a c, is read behind so many makers, and behind a year where it is 4.
- letter: behind so many makers a letter is read, and perhaps figures of which the last is 0.
- maker: so many makers are read, of the last one a figure that is no 0 is the last sign.
- copy: 0 where no figure of a copy is read, 1 where a 1 alone is, which is no copy yet.
- copied: the figures of a copy are read.
"""

from spinemarks.signs import FIGURES, SMALL

START = ("letters", 0)
# The signs that stand in marks, as Python compares texts.
ALL_SIGNS = " .0123456789abcdefghijklmnopqrstuvwxyz"
# The same signs; those that stand together make the same of each state.
ALIKE_SIGNS = (" ", ".", "0", "1", "2", "3456789", "c", "abdefghijklmnopqrstuvwxyz")
MOST_LETTERS = 3
MOST_MAKERS = 3
BEHIND_YEAR = 4
COPY_ENDS = ("2", "0")
# Where any figures may follow, and the last one of them alone makes the state behind them.
ENDLESS = {"point": True, "points": True, "letter": True, "maker": True, "copied": True}


def step(state, sign):
    """The state behind the sign, or None where no mark goes on with it."""
    place, many = state
    action = STEPS[place]
    return action(many, sign)


def ending(state):
    """The fewest signs with which a mark ends behind the state, none where it is whole."""
    place, many = state
    if place == "letters":
        return "a1" if many == 0 else "1"
    if place == "blank":
        return "a1" if many < MOST_MAKERS else "c.2"
    if place == "c":
        return "1" if many < MOST_MAKERS else ".2"
    if place == "year":
        return "0" * (4 - many)
    if place == "copy":
        return COPY_ENDS[many]
    return "1" if place == "point" or place == "letter" else ""


def _behind_letters(many, sign):
    if sign in SMALL and many < MOST_LETTERS:
        return ("letters", many + 1)
    return ("number", 1) if _is_first(sign) and many > 0 else None


def _behind_number(many, sign):
    if sign in FIGURES and many < 4:
        return ("number", many + 1)
    if sign == ".":
        return ("point", 0)
    return ("blank", 0) if sign == " " else None


def _behind_point(_, sign):
    if sign == "0":
        return ("point", 0)
    return ("points", 0) if _is_first(sign) else None


def _behind_points(many, sign):
    return ("blank", 0) if sign == " " else _behind_point(many, sign)


def _behind_blank(many, sign):
    if sign == "c":
        return ("c", many)
    if sign in SMALL and many < MOST_MAKERS:
        return ("letter", many)
    return ("year", 1) if sign in "12" and many < BEHIND_YEAR else None


def _behind_c(many, sign):
    if sign == ".":
        return ("copy", 0)
    return _behind_letter(many, sign) if many < MOST_MAKERS else None


def _behind_letter(many, sign):
    if sign == "0":
        return ("letter", many)
    return ("maker", many + 1) if _is_first(sign) else None


def _behind_maker(many, sign):
    # The last maker may go on, so it is still one that is being read.
    return ("blank", many) if sign == " " else _behind_letter(many - 1, sign)


def _behind_year(many, sign):
    if many < 4:
        return ("year", many + 1) if sign in FIGURES else None
    return ("blank", BEHIND_YEAR) if sign == " " else None


def _behind_copy(many, sign):
    if many == 0 and sign == "1":
        return ("copy", 1)
    if many == 0:
        return ("copied", 0) if _is_first(sign) else None
    return _behind_copied(many, sign)


def _behind_copied(_, sign):
    return ("copied", 0) if sign in FIGURES else None


def _is_first(sign):
    return sign in FIGURES and sign != "0"


STEPS = {
    "letters": _behind_letters,
    "number": _behind_number,
    "point": _behind_point,
    "points": _behind_points,
    "blank": _behind_blank,
    "c": _behind_c,
    "letter": _behind_letter,
    "maker": _behind_maker,
    "year": _behind_year,
    "copy": _behind_copy,
    "copied": _behind_copied,
}
