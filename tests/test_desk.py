"""What a desk does and answers: points [122] to [126]."""

import random
import unittest

from spinemarks.between import shortest
from spinemarks.borders import border, sought
from spinemarks.classes import Scheme
from spinemarks.concord import classed_apart
from spinemarks.desk import Desk
from spinemarks.errors import (
    Alike, Crossing, Full, MarkError, Missing, NoBack, NoBound, NoHead, NoHouse, NoLine, NoName, NoNumber, NoPart, NoRoom,
    NoRow, NoShelf, NoSize, NoSizes, NoStart, NoSteps, NotRising, NotThere, NoWay, There, TooLong, Twice, Upside,
)
from spinemarks.housetexts import house_text
from spinemarks.marks import Mark
from spinemarks.numbering import mark_at, number_of
from spinemarks.parted import parted
from spinemarks.rules import Rule, first_rule
from spinemarks.settled import settles
from spinemarks.shelves import Shelves
from spinemarks.short import Shorts
from spinemarks.slips import could_be
from spinemarks.spread import next_of, spread
from spinemarks.wrong import row_slips
from tests.helper import TEXTS, Case, mark_of, marks_of

FIRST = "rule / letters words / number whole / points decimal / makers decimal / year rising / copy rising"
FIELDS = {NoRow: "found", NotRising: "at", Full: "many"}


def desk_of(*lines):
    desk = Desk()
    for line in lines:
        desk.say(line)
    return desk


def told(rows):
    """An answer of these rows."""
    return " / ".join([str(row) for row in rows]) or "none"


class DeskCase(Case):
    def answers(self, desk, *pairs):
        for line, answer in pairs:
            self.assertEqual(desk.say(line), answer, line)

    def refuses_line(self, desk, line, kind, thing=None):
        """That the line is refused with a field that equals the thing, and changes nothing."""
        before = self.shown(desk)
        with self.assertRaises(Exception) as caught:
            desk.say(line)
        self.assertIs(type(caught.exception), kind, line)
        if kind not in (NoStart, NoBack):
            held = getattr(caught.exception, FIELDS.get(kind, "found"))
            self.assertEqual((type(held), held), (type(thing), thing), line)
        self.assertEqual(self.shown(desk), before)

    def shown(self, desk):
        """The houses of a desk, and what is at hand."""
        try:
            return (desk.say("houses"), desk.say("show"))
        except NoStart:
            return None


class Changes(DeskCase):
    def test_house(self):
        desk = Desk()
        self.answers(desk, ("house b 2 6", "ok"), ("show", f"shelves 2 6 / {FIRST} / scheme"), ("put q1", "none"))
        self.answers(desk, ("house a 1", "ok"), ("houses", "b / a"), ("books", "none"), ("show", f"shelves 1 / {FIRST} / scheme"))
        for sizes in ("1 2 3 4 5 6 1 2", "6"):
            self.assertEqual(desk.say(f"house c {sizes}"), "ok")
            self.assertEqual(desk.say("show"), f"shelves {sizes} / {FIRST} / scheme")
            desk.say("undo")
        self.refuses_line(desk, "house b 1", Twice, "b")
        self.refuses_line(desk, "house b 0", Twice, "b")
        self.refuses_line(desk, "house d 1 0 7", NoSize, 0)
        self.refuses_line(desk, "house d 7", NoSize, 7)
        self.refuses_line(desk, "house d " + "9" * 30, NoSize, int("9" * 30))
        self.answers(desk, ("houses", "b / a"))

    def test_twelve_houses(self):
        names = [f"{letter}{letter}" for letter in "lkjihgfedcba"]
        desk = desk_of(*[f"house {name} 1" for name in names])
        self.answers(desk, ("houses", told(names)))
        for name in names:
            self.answers(desk, (f"go {name}", "ok"), (f"put {name}1", "none"))
        self.answers(desk, ("houses", told(names)), ("books", "aa1"), ("go ll", "ok"), ("books", "ll1"))

    def test_go(self):
        desk = desk_of("house a 1", "put q1", "house b 2")
        self.answers(desk, ("go a", "ok"), ("books", "q1"), ("go a", "ok"), ("books", "q1"), ("go b", "ok"), ("books", "none"))
        self.refuses_line(desk, "go c", NoHouse, "c")
        self.refuses_line(desk, "go ab", NoHouse, "ab")

    def test_put_and_take(self):
        desk = desk_of("house a 2 1 1")
        self.answers(
            desk, ("put q5", "none"), ("put q9", "none"), ("books", "q5 / q9"),
            ("show", f"shelves 2 1 1 / 0 q5 / 0 q9 / {FIRST} / scheme"), ("put q7 k5 c.2", "q9 0 1"), ("put q6", "q7 k5 c.2 0 1 / q9 1 2"),
            ("books", "q5 / q6 / q7 k5 c.2 / q9"),
        )
        self.refuses_line(desk, "put q6", There, mark_of("q6"))
        self.refuses_line(desk, "put q8", Full, 4)
        self.answers(desk, ("take q6", "0"), ("take q9", "2"), ("take q7 k5 c.2", "1"), ("books", "q5"))
        self.refuses_line(desk, "take q6", NotThere, mark_of("q6"))
        self.answers(desk, ("take q5", "0"), ("books", "none"))

    def test_grow(self):
        desk = desk_of("house a 1", "put q1")
        for size in (6, 5, 4, 3, 2, 1, 1):
            self.answers(desk, (f"grow {size}", "ok"))
        self.answers(desk, ("show", f"shelves 1 6 5 4 3 2 1 1 / 0 q1 / {FIRST} / scheme"))
        self.refuses_line(desk, "grow 2", NoSizes, [1, 6, 5, 4, 3, 2, 1, 1, 2])
        for size in (0, 7, 10 ** 29):
            self.refuses_line(desk, f"grow {size}", NoSize, size)

    def test_rule(self):
        desk = desk_of("house a 2", "put q9", "put q10")
        self.answers(
            desk, ("rule number figures", "ok"), ("show", "shelves 2 / 0 q9 / 0 q10 / rule / number figures / scheme"),
            ("ruled", "q10 / q9"), ("rule year late / copy falling", "ok"), ("ruled", "q9 / q10"),
        )
        self.refuses_line(desk, "rule part x", NoPart, "part")
        self.refuses_line(desk, "rule year late / copy late", NoWay, "late")
        self.refuses_line(desk, "rule year late / year late / x y", Twice, "year")
        self.refuses_line(desk, "rule" + " / year late" * 7, NoLine, "rule" + " / year late" * 7)
        self.refuses_line(desk, "rule year late" + " / year late" * 6, NoSteps, [("year", "late")] * 7)

    def test_scheme(self):
        desk = desk_of("house a 2", "put q9")
        self.answers(
            desk, ("scheme a q1 q50 / b q9 q9.5", "ok"), ("show", f"shelves 2 / 0 q9 / {FIRST} / scheme / a q1 q50 / b q9 q9.5"),
            ("chain q9", "a / b"), ("scheme", "ok"), ("show", f"shelves 2 / 0 q9 / {FIRST} / scheme"), ("chain q9", "none"),
        )
        self.refuses_line(desk, "scheme A q1 q2", NoName, "A")
        self.refuses_line(desk, "scheme a q1 q2 / a q q", Twice, "a")
        self.refuses_line(desk, "scheme a q0 q2", NoHead, "q0")
        self.refuses_line(desk, "scheme a q2 q1", Upside, "a")
        self.refuses_line(desk, "scheme a q1 q5 / b q2 q6", Crossing, ("a", "b"))

    def test_read(self):
        desk = desk_of("house a 2", "put q9")
        shown = "shelves 1 3 / 0 q1 k5 / 1 q2 / 1 q3 / rule / year late / scheme / k q1 q5"
        self.answers(desk, ("read " + shown, "3"), ("show", shown), ("books", "q1 k5 / q2 / q3"), ("ruled", "q1 k5 / q2 / q3"))
        self.answers(desk, ("read shelves 6 / rule / copy rising / scheme", "0"), ("books", "none"), ("houses", "a"))
        for line, kind, thing in (
            ("read x", NoRow, 0), ("read shelves 1", NoRow, 1), ("read shelves 1 / 1 q1", NoRow, 1),
            ("read shelves 1 / rule / year late", NoRow, 3), ("read shelves 0 / rule / scheme", NoSize, 0),
            ("read shelves 1 / 0 q1 / 0 q2 / rule / scheme", NoRow, marks_of("q1", "q2")),
            ("read shelves 2 / 0 q2 / 0 q1 / rule / scheme", NotRising, 1), ("read shelves 2 / rule / scheme", NoSteps, []),
            ("read shelves 2 / rule / year x / scheme", NoWay, "x"),
            ("read shelves 2 / rule / year late / scheme / a q2 q1", Upside, "a"),
        ):
            self.refuses_line(desk, line, kind, thing)


class Undo(DeskCase):
    def test_each_line_is_taken_back(self):
        lines = [
            "house a 2 1", "put q5", "put q9", "put q7", "take q5", "go a", "grow 3", "rule number figures", "scheme k q1 q9",
            "house b 1", "put q1", "go a", "scheme", "read shelves 1 / rule / year late / scheme", "go b", "go b", "take q1", "go a",
        ]
        desk = Desk()
        seen = [self.shown(desk)]
        for line in lines:
            desk.say(line)
            seen.append(self.shown(desk))
        for before in seen[-2::-1]:
            self.assertEqual(desk.say("undo"), "ok")
            self.assertEqual(self.shown(desk), before)
        self.refuses_line(desk, "undo", NoBack)
        self.answers(desk, ("house a 6", "ok"), ("show", f"shelves 6 / {FIRST} / scheme"), ("undo", "ok"))
        self.refuses_line(desk, "undo", NoBack)

    def test_nothing_to_take_back(self):
        desk = Desk()
        for _ in range(2):
            with self.assertRaises(NoBack):
                desk.say("undo")
        with self.assertRaises(NoLine):
            desk.say("undo 1")

    def test_refused_lines_and_questions_are_not_taken_back(self):
        desk = desk_of("house a 1", "put q1")
        for line in ("put q1", "put q2", "take q2", "grow 9", "rule a b", "scheme a b c", "read x", "house a 1", "go b", "x", "undo "):
            with self.assertRaises((MarkError, Missing)):
                desk.say(line)
        for line in ("houses", "show", "books", "signs", "border 0", "order q1 / q2", "between q1 / q2"):
            desk.say(line)
        self.answers(desk, ("undo", "ok"), ("books", "none"), ("undo", "ok"))
        self.refuses_line(desk, "undo", NoBack)

    def test_lines_behind_an_undo(self):
        desk = desk_of("house a 3", "put q1", "put q2", "undo", "put q3")
        self.answers(desk, ("books", "q1 / q3"), ("undo", "ok"), ("books", "q1"), ("undo", "ok"), ("books", "none"), ("undo", "ok"))
        self.refuses_line(desk, "undo", NoBack)

    def test_a_go_is_taken_back_alone(self):
        desk = desk_of("house a 1", "house b 1", "go a", "go a", "put q1", "go b")
        for line, books in (("undo", "q1"), ("undo", "none"), ("undo", "none"), ("undo", "none")):
            self.answers(desk, (line, "ok"), ("books", books))
        self.answers(desk, ("put r1", "none"), ("go a", "ok"), ("books", "none"), ("houses", "a / b"))

    def test_houses_that_are_not_at_hand_are_kept(self):
        desk = desk_of("house a 2", "put q1", "house b 2", "put r1", "go a", "put q2", "go b", "undo", "undo")
        self.answers(desk, ("books", "q1"), ("go b", "ok"), ("books", "r1"), ("undo", "ok"), ("undo", "ok"), ("books", "r1"))
        self.answers(desk, ("undo", "ok"), ("books", "none"), ("houses", "a / b"), ("undo", "ok"), ("houses", "a"), ("books", "q1"))


class Questions(DeskCase):
    LINES = (
        "house a 2 3 1 2", "read shelves 2 3 1 2 / 0 q1 / 1 q5 k5 / 1 q5 k5 1998 / 1 q9 / 3 q10 c.2 / rule / number figures / year late "
        "/ scheme / in q5 q5.5 / all q1 q9 / far r1 r2",
    )

    def test_houses_show_books_and_ruled(self):
        desk = desk_of(*self.LINES)
        self.answers(
            desk, ("houses", "a"), ("show", self.LINES[1][5:]), ("books", "q1 / q5 k5 / q5 k5 1998 / q9 / q10 c.2"),
            ("ruled", "q1 / q10 c.2 / q5 k5 1998 / q5 k5 / q9"),
        )

    def test_border_sought_and_where(self):
        desk = desk_of(*self.LINES)
        self.answers(
            desk, ("border 0", "none"), ("border 1", "q2"), ("border 2", "none"), ("border 3", "q10"), ("sought q1", "0"),
            ("sought q1.9", "0"), ("sought q2", "1"), ("sought q9.9", "1"), ("sought zzz9999", "3"), ("where q9", "1"),
            ("where q10 c.2", "3"), ("where q1", "0"),
        )
        self.refuses_line(desk, "border 4", NoShelf, 4)
        self.refuses_line(desk, "border 100", NoShelf, 100)
        self.refuses_line(desk, "where q10", NotThere, mark_of("q10"))

    def test_order_chain_and_holds(self):
        desk = desk_of(*self.LINES)
        self.answers(
            desk, ("order q1 / q2", "ahead"), ("order q9 / q10", "behind"), ("order q1 / q1", "same"), ("order q1 k5 / r1 c.9", "same"),
            ("order q1 / q1 1998", "behind"), ("chain q5.5 k5", "all / in"), ("chain q6", "all"), ("chain q10", "none"),
            ("holds all", "q1 / q5 k5 / q5 k5 1998 / q9"), ("holds in", "q5 k5 / q5 k5 1998"), ("holds far", "none"),
        )
        self.refuses_line(desk, "holds near", NotThere, "near")

    def test_no_books_and_no_classes(self):
        desk = desk_of("house a 1 2")
        self.answers(
            desk, ("books", "none"), ("ruled", "none"), ("border 0", "none"), ("border 1", "none"), ("sought q1", "none"),
            ("chain q1", "none"), ("signs", "0"), ("show", f"shelves 1 2 / {FIRST} / scheme"), ("order q9 / q10", "ahead"),
        )
        self.refuses_line(desk, "where q1", NotThere, mark_of("q1"))
        self.refuses_line(desk, "holds a", NotThere, "a")
        self.refuses_line(desk, "border 2", NoShelf, 2)

    def test_apart_and_parted(self):
        desk = desk_of("house a 1", "scheme k q1 q5", "house b 1", "scheme k q1 q5.9", "house c 1", "scheme k q1 q6")
        self.answers(desk, ("apart a", "q6"), ("apart b", "q6"), ("apart c", "none"), ("go b", "ok"), ("apart a", "none"))
        self.answers(desk, ("parted a", "none"), ("rule year figures", "ok"), ("parted b", "none"), ("go a", "ok"), ("rule year rising", "ok"))
        self.answers(desk, ("parted b", "none"), ("apart c", "q6"))
        self.answers(desk, ("rule number figures", "ok"))
        one, other = marks_of(*desk.say("parted c").split(" / "))
        self.assertNotEqual(Rule([("number", "figures")]).order(one, other), first_rule().order(one, other))
        for line in ("apart", "parted"):
            self.refuses_line(desk, f"{line} d", NoHouse, "d")

    def test_signs(self):
        desk = desk_of("house a 6 6 6", "put qa76.9 k52", "put qa76.9 k52 1998")
        self.answers(desk, ("signs", str(Shorts(marks_of("qa76.9 k52", "qa76.9 k52 1998")).signs())))
        desk.say("put qa76.9 k52 w61 x7 1998 c.2")
        self.refuses_line(desk, "signs", TooLong, mark_of("qa76.9 k52 w61 x7 1998 c.2"))
        desk = desk_of("house a 6 6 6", *[f"put q{number}" for number in range(1, 13)])
        self.answers(desk, ("signs", str(2 * 9 + 3 * 3)))
        desk.say("put q13")
        self.refuses_line(desk, "signs", NoRow, [Mark("q", number) for number in range(1, 14)])

    def test_questions_of_marks(self):
        self.answers(
            desk_of("house a 1"), ("settles q9 / q76", "ahead 3 number"), ("settles r1 / q1", "behind 1 letters"),
            ("between q1 / q2", "q1.1"), ("between q1 / q3", "q2"), ("spread 3 q1 / q2", "q1.1 / q1.4 / q1.7"),
            ("spread 1 q1 / q3", "q2"), ("number 2 a1", "0"), ("number 5 q1", str(number_of(mark_of("q1"), 5))), ("at 0 2", "a1"),
            ("at 233 2", "z9"), ("after 2 a1", "a2"), ("after 2 z9", "none"), ("after 7 zzz9999", "none"), ("could other q0", told(
                [f"q{number}" for number in range(1, 10)])), ("could lost q 1", "none"), ("could extra q 1", "q1"),
            ("could turned 1q", "q1"), ("wrong other q1 / q0 / q3", "1 q2"), ("wrong other q1 / q2", "none"),
            ("wrong turned q1 / 2q / q3", "1 q2"),
        )

    def test_refusals_of_questions_of_marks(self):
        desk = desk_of("house a 1")
        for line, kind, thing in (
            ("settles q1 / q1", Alike, mark_of("q1")), ("between q2 / q1", NoRoom, tuple(marks_of("q2", "q1"))),
            ("between q1 / q1", NoRoom, tuple(marks_of("q1", "q1"))), ("between q1 / q1 c.2", NoRoom, tuple(marks_of("q1", "q1 c.2"))),
            ("spread 0 q1 / q2", NoNumber, 0), ("spread 21 q2 / q1", NoNumber, 21), ("spread 1 q2 / q1", NoRoom, tuple(marks_of("q2", "q1"))),
            ("spread 2 q1 / q1 c.3", NoRoom, tuple(marks_of("q1", "q1 c.3"))), ("number 61 q1", NoBound, 61),
            ("number 1 q1", TooLong, mark_of("q1")), ("at 0 61", NoBound, 61), ("at 234 2", NoNumber, 234), ("at 0 1", NoNumber, 0),
            ("after 61 q1", NoBound, 61), ("could lost " + "q" * 41, TooLong, "q" * 41), ("wrong lost q1", NoRow, ["q1"]),
            ("wrong other q1" + " / q2" * 12, NoRow, ["q1"] + ["q2"] * 12), ("wrong other q1 / " + "q" * 41, TooLong, "q" * 41),
        ):
            self.refuses_line(desk, line, kind, thing)

    def test_nothing_is_changed(self):
        desk = desk_of(*self.LINES, "house b 1", "go a")
        before = self.shown(desk)
        for line in ("houses", "show", "books", "ruled", "border 1", "sought q1", "where q1", "order q1 / q2", "chain q1", "holds all",
                     "apart b", "parted b", "signs", "settles q1 / q2", "between q1 / q2", "spread 2 q1 / q2", "number 2 q1", "at 0 2",
                     "after 2 q1", "could other q0", "wrong other q1 / q0"):
            first = desk.say(line)
            self.assertEqual(desk.say(line), first)
            self.assertEqual(self.shown(desk), before)
        self.answers(desk, ("undo", "ok"), ("books", "none"))


class Model:
    """What a desk has, by hand: copies of all of it are kept."""

    def __init__(self):
        self.houses = {}
        self.name = None
        self.past = []

    def copy(self):
        return ({name: [shelves.twin(), rule, scheme] for name, (shelves, rule, scheme) in self.houses.items()}, self.name)

    def change(self, word, *things):
        """The answer, and what is refused raised."""
        before = self.copy()
        answer = getattr(self, word)(*things)
        self.past.append(before)
        return answer

    def hand(self):
        return self.houses[self.name]

    def house(self, name, sizes):
        if name in self.houses:
            raise Twice(name)
        self.houses[name] = [Shelves(sizes), first_rule(), Scheme([])]
        self.name = name
        return "ok"

    def go(self, name):
        if name not in self.houses:
            raise NoHouse(name)
        self.name = name
        return "ok"

    def put(self, mark):
        return told([f"{book} {one} {other}" for book, one, other in self.hand()[0].put(mark)])

    def take(self, mark):
        return str(self.hand()[0].take(mark))

    def grow(self, size):
        self.hand()[0].grown(size)
        return "ok"

    def rule(self, steps):
        self.hand()[1] = Rule(steps)
        return "ok"

    def scheme(self, rows):
        self.hand()[2] = Scheme(rows)
        return "ok"

    def undo(self):
        if not self.past:
            raise NoBack()
        self.houses, self.name = self.past.pop()
        return "ok"

    def shown(self):
        if self.name is None:
            return None
        return (told(self.houses), told(house_text(*self.hand()).splitlines()))


def change_by_chance(chance):
    """A line that changes what a desk has, and the same as things."""
    word = chance.choice(("house", "go", "put", "put", "put", "put", "take", "take", "grow", "rule", "scheme", "undo"))
    name = chance.choice("abc")
    text = chance.choice(TEXTS[:12])
    sizes = [chance.randint(0 if chance.random() < 0.1 else 1, 2) for _ in range(chance.randint(1, 4))]
    steps = [("year", "late"), ("copy", chance.choice(("falling", "late"))), ("number", "figures")][:chance.randint(1, 3)]
    classes = [("a", "q1", "q5"), (chance.choice("ab"), "q2", "q3"), ("c", "r1", "r2")][:chance.randint(0, 3)]
    if word == "house":
        return (f"house {name} {' '.join(map(str, sizes))}", (word, name, sizes))
    if word == "go":
        return (f"go {name}", (word, name))
    if word in ("put", "take"):
        return (f"{word} {text}", (word, mark_of(text)))
    if word == "grow":
        return (f"grow {sizes[0]}", (word, sizes[0]))
    if word == "rule":
        return ("rule " + " / ".join(map(" ".join, steps)), (word, steps))
    if word == "scheme":
        return (("scheme " + " / ".join(map(" ".join, classes))).strip(), (word, classes))
    return ("undo", ("undo",))


class ByChance(DeskCase):
    def say_both(self, desk, model, line, things):
        """Whether the line was not refused, by the desk as by the model."""
        try:
            if things[0] not in ("house", "undo") and model.name is None:
                raise NoStart()
            expected = model.undo() if things == ("undo",) else model.change(*things)
        except (MarkError, Missing) as refusal:
            field = None if type(refusal) in (NoStart, NoBack) else getattr(refusal, FIELDS.get(type(refusal), "found"))
            self.refuses_line(desk, line, type(refusal), field)
            return False
        self.assertEqual(desk.say(line), expected, line)
        return True

    def test_lines_by_turns_with_a_model_and_another_desk(self):
        chance = random.Random(35)
        went = {True: 0, False: 0}
        for _ in range(12):
            pairs = [(Desk(), Model()), (Desk(), Model())]
            for _ in range(70):
                desk, model = chance.choice(pairs)
                line, things = change_by_chance(chance)
                went[self.say_both(desk, model, line, things)] += 1
                for held, by_hand in pairs:
                    self.assertEqual(self.shown(held), by_hand.shown())
        self.assertGreater(min(went.values()), 100)

    def test_questions_tell_what_the_points_tell(self):
        chance = random.Random(36)
        for _ in range(15):
            desk, model = Desk(), Model()
            for line, things in [("house a 2 3 2", ("house", "a", [2, 3, 2]))] + [change_by_chance(chance) for _ in range(25)]:
                self.say_both(desk, model, line, things)
            if model.name is None:
                continue
            (shelves, rule, scheme), texts = model.hand(), chance.sample(TEXTS, 2)
            one, other = marks_of(*texts)
            books = [mark for row in shelves.rows() for mark in row]
            self.answers(
                desk, ("books", told(books)), ("ruled", told(rule.in_order(books))),
                (f"sought {one}", str(sought(shelves, one)).replace("None", "none")),
                (f"order {one} / {other}", {-1: "ahead", 0: "same", 1: "behind"}[rule.order(one, other)]),
                (f"chain {one}", told(scheme.chain(one))),
                *[(f"border {at}", str(border(shelves, at)).replace("None", "none")) for at in range(len(shelves.sizes()))],
                *[(f"apart {name}", str(classed_apart(scheme, house[2])).replace("None", "none")) for name, house in model.houses.items()],
                *[(f"parted {name}", told(parted(rule, house[1]) or [])) for name, house in model.houses.items()],
                *[(f"holds {name}", told([mark for mark in books if scheme.holds(name, mark)])) for name in scheme.names()],
                *[(f"where {mark}", str(shelves.shelf_with(mark))) for mark in books],
                ("signs", str(Shorts(books).signs())),
            )

    def test_questions_of_marks_tell_what_the_points_tell(self):
        chance = random.Random(37)
        desk = desk_of("house a 1")
        for _ in range(60):
            one, other = marks_of(*chance.sample(TEXTS, 2))
            sign, many, part = settles(one, other)
            low, high = (one, other) if sign < 0 else (other, one)
            bound = chance.randint(30, 60)
            number = number_of(one, bound)
            text = str(one).replace(chance.choice(str(one)), chance.choice("0a "), 1)
            kind = chance.choice(("other", "lost", "extra", "turned"))
            row = [str(low), text, str(high)]
            self.answers(
                desk, (f"settles {one} / {other}", f"{'ahead' if sign < 0 else 'behind'} {many} {part}"),
                (f"number {bound} {one}", str(number)), (f"at {number % 10 ** 30} {bound}", str(mark_at(number % 10 ** 30, bound))),
                (f"after {bound} {one}", str(next_of(one, bound))), (f"could {kind} {text}", told(could_be(text, kind=kind))),
                (f"wrong {kind} {' / '.join(row)}", told([f"{at} {mark}" for at, mark in row_slips(row, kind)])),
            )
            if not low.same_book(high):
                many = chance.randint(1, 20)
                self.answers(
                    desk, (f"between {low} / {high}", str(shortest(low, high))),
                    (f"spread {many} {low} / {high}", told(spread(many, low, high))),
                )


class TwoDesks(DeskCase):
    def test_told_by_turns(self):
        one, other = Desk(), Desk()
        self.answers(one, ("house a 2", "ok"), ("put q1", "none"))
        self.refuses_line(other, "books", NoStart)
        self.refuses_line(other, "undo", NoBack)
        self.answers(other, ("house a 1", "ok"), ("books", "none"))
        self.answers(one, ("put q2", "none"), ("house b 1", "ok"))
        self.answers(other, ("houses", "a"), ("put r1", "none"), ("rule year late", "ok"), ("scheme a q1 q2", "ok"))
        self.answers(one, ("go a", "ok"), ("books", "q1 / q2"), ("show", f"shelves 2 / 0 q1 / 0 q2 / {FIRST} / scheme"))
        self.answers(other, ("undo", "ok"), ("undo", "ok"), ("undo", "ok"), ("books", "none"))
        self.answers(one, ("books", "q1 / q2"))


if __name__ == "__main__":
    unittest.main()
