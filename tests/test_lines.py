"""The forms of the lines that are told to a desk: point [121]."""

import unittest

from spinemarks.desk import Desk
from spinemarks.errors import MarkError, Missing, NoLine, NoStart
from spinemarks.marks import Mark
from tests.helper import NO_TEXTS, Case

# Lines of each form, none of which the house below refuses.
LINES = (
    "house b 1", "house abcdef 1 2 3 4 5 6 1 2", "go a", "put q3", "put zz9.05 k5 w61 z7 1998 c.12", "take q1", "take q2 c.2",
    "grow 1", "rule year late", "rule letters short / number figures / copy falling", "scheme", "scheme c q1 q2",
    "scheme c q1 q2 / d q2 q2.5", "read shelves 2 / 0 q1 / rule / year late / scheme", "houses", "show", "books", "ruled",
    "border 0", "border 1", "sought q1", "where q1", "order q1 / q2", "order q1 k5 1998 / q2 c.2", "chain q1", "holds k", "apart a",
    "parted a", "signs", "settles q1 / q2", "settles q1 c.2 / q1 c.3", "between q1 / q2", "spread 3 q1 / q2",
    "spread 20 q1 k5 / q2 c.9", "number 5 q1", "number 60 q1 k5 1998", "at 0 2", "at 10 5", "after 9 q1", "could other q0",
    "could lost q1 k", "could extra q1 / q2", "could turned  / ", "wrong other q1 / q0 / q9", "wrong lost q / q2",
    "wrong turned q1 k / 5", "undo",
)
# Lines that have a form, but are refused as the points tell.
REFUSED = (
    "house a 1", "house b 0", "house b " + "9" * 30, "go zz", "put q1", "take q9", "grow 7", "rule a b", "scheme A b c", "read / a",
    "read a /", "read x", "read  ", "border 2", "border " + "9" * 30, "where q9", "holds zz", "apart zz", "parted zz",
    "settles q1 / q1", "between q2 / q1", "spread 0 q1 / q2", "spread 21 q1 / q2", "number 61 q1", "number 1 q1", "at 0 61",
    "at 234 2", "after 61 q1", "could other " + "q" * 41, "wrong other q1", "wrong other q1 / " + "q" * 41, "rule // //",
    "scheme a/b a//b c", "read a / / b", "read shelves 1 / rule / scheme", "rule year late / year late",
)
NO_LINES = (
    "", " ", "x", "/", "House b 1", "HOUSES", "house", "house b", "house b ", "house 1", "house b1 1", "house abcdefg 1",
    "house B 1", "house b 1 2 3 4 5 6 1 2 3", "house b x", "house b 01", "house b 1 00", "house b 1 / 2", "house b -1",
    "house b +1", "house b 1.5", "house b " + "9" * 31, "house b q1", "house b \u0661", "house b c 1", "go", "go ", "go a b", "go A",
    "go 1", "go abcdefg", "go /", "put", "put ", "put q", "put q0", "put q01", "put q1 / q2", "put q1.0", "put Q1", "put 1", "put q1 c.1",
    "take q1 / q2", "take a", "grow", "grow x", "grow 1 2", "grow 01", "grow -1", "grow " + "1" * 31, "grow 00", "rule", "rule ",
    "rule year", "rule year late copy", "rule year late /", "rule / year late", "rule year late / copy", "rule year late copy rising",
    "rule year late // copy rising", "rule year late / / copy rising", "rule year / late", "rule / late", "rule year /", "rule / /",
    "scheme ", "scheme c", "scheme c q1", "scheme c q1 q2 /", "scheme c q1 q2 d q3 q4", "scheme / q1 q2", "scheme c / q2", "scheme c q1 /",
    "scheme c q1 q2 / d q3", "scheme /", "read", "read ", "read a / ", "read  / a", "read a /  / b", "read  / ", "undo ", "undo x", "undo 1",
    "houses a", "show 1", "books q1", "ruled /", "signs 1", "houses ", "border", "border x", "border -1", "border 01", "border 0 1",
    "sought", "sought q", "where", "where 1", "order q1", "order q1 q2", "order q1 / q2 / q3", "order q1 /", "order / q2", "order q1/ q2",
    "order q1 / ", "order q1 /q2", "order q1 / q", "chain", "chain q", "holds", "holds q1", "holds A", "apart", "apart 1", "parted",
    "parted a b", "settles q1", "settles q1 q2", "settles q1 / 2", "between q1", "between / q1", "between q1 / q2 / q3", "spread q1 / q2",
    "spread 3 q1", "spread 03 q1 / q2", "spread 3 q1 q2", "spread x q1 / q2", "spread 3 / q1 / q2", "number q1", "number 5", "number 5 q",
    "number 05 q1", "number q1 5", "number 5 5", "at 1", "at 1 2 3", "at q1 2", "at 1 q1", "at 01 2", "at 1 02", "at 1 / 2",
    "at 1 " + "2" * 31, "after 5", "after q1", "after q1 5", "after 05 q1", "could", "could other", "could other ", "could odd q1",
    "could q1", "could OTHER q1", "could / q1", "wrong", "wrong other", "wrong other ", "wrong odd q1 / q2", "wrong q1 / q2",
    "wrong other q1 / ", "wrong other  / q1", "wrong other q1 /  / q2", "wrong / q1", "border 0\n", "put q1\n", "books\n",
    "could other q\n0", "read a\nb", "\nbooks", "put  q1", "wrong  q1 / q2",
)


def desk_with_house():
    desk = Desk()
    for line in ("house a 2 2", "put q1", "put q2 c.2", "scheme k q1 q5"):
        desk.say(line)
    return desk


def is_refused(line):
    """Whether the line is refused by a desk with the house above, but is a line."""
    try:
        desk_with_house().say(line)
    except NoLine:
        return None
    except (MarkError, Missing):
        return True
    return False


class Lines(Case):
    def test_each_form(self):
        for line in LINES:
            answer = desk_with_house().say(line)
            self.assertIs(type(answer), str, line)
            self.assertNotIn("\n", answer)

    def test_lines_of_a_form_that_are_refused(self):
        for line in REFUSED:
            self.assertIs(is_refused(line), True, line)

    def test_no_lines(self):
        desk = desk_with_house()
        shown = desk.say("show")
        for line in NO_LINES:
            self.refuses(NoLine, line, desk.say, line)
            # It is looked at ahead of whether there is a house.
            self.refuses(NoLine, line, Desk().say, line)
        self.assertEqual(desk.say("show"), shown)

    def test_things_of_other_kinds(self):
        for desk in (Desk(), desk_with_house()):
            for thing in (*NO_TEXTS, b"houses", ["houses"], Desk()):
                self.refuses(NoLine, thing, desk.say, thing)

    def test_a_blank_more_or_less(self):
        for line in LINES:
            word, _, rest = line.partition(" ")
            lines = [" " + line, word + "  " + rest, line + "\n", "\n" + line, line.replace(" ", ""), line.upper(), "x" + line]
            # Behind the last sign of a TEXT a blank is one of its signs, and so is one ahead of it.
            if word not in ("read", "could", "wrong"):
                lines += [line + " ", line.replace(" / ", "/"), line.replace(" / ", "  / "), line.replace(" / ", " /  ")]
            if word == "read":
                lines.remove(word + "  " + rest)
            for other in lines:
                if other not in LINES:
                    self.assertIsNone(is_refused(other), other)

    def test_what_several_texts_are(self):
        desk = desk_with_house()
        for line, texts in (
            ("wrong other / a", ["/ a"]), ("wrong other a /", ["a /"]), ("wrong other /", ["/"]), ("wrong other a b", ["a b"]),
            ("wrong other  ", [" "]), ("wrong other //", ["//"]), ("wrong other a/b", ["a/b"]), ("wrong other / /", ["/ /"]),
        ):
            # A row of one text is none, and is told by the refusal.
            with self.assertRaises(MarkError) as caught:
                desk.say(line)
            self.assertEqual(caught.exception.found, texts)
        for line, texts in (
            ("read shelves 1 / a / / b", ["a", "/ b"]), ("read shelves 1 / 0 q1 / / / b", ["0 q1", "/", "b"]), ("read shelves 1 / 0 q1 /  x", ["0 q1", " x"]),
            ("read shelves 1 / 0 q1  / x", ["0 q1 ", "x"]), ("read shelves 1 / 0 q1 / 0 q2 /", ["0 q1", "0 q2 /"]),
        ):
            with self.assertRaises(MarkError) as caught:
                desk.say(line)
            good = [at for at, text in enumerate(texts) if text in ("0 q1", "0 q2")]
            self.assertEqual(caught.exception.found, 1 + len(good))
        # One TEXT alone has all signs.
        self.assertEqual(desk.say("could lost q / 1"), "none")

    def test_thirty_figures_and_one_more(self):
        desk = desk_with_house()
        most = "9" * 30
        self.assertEqual(desk.say(f"after 5 q1 c.{most}"), "q1 a1")
        for line in ("border {}", "grow {}", "house b {}", "spread {} q1 / q2", "number {} q1", "at {} 5", "at 5 {}", "after {} q1"):
            self.assertIs(is_refused(line.format(most)), True, line)
            self.assertIsNone(is_refused(line.format("1" + "0" * 30)), line)
            self.assertIsNone(is_refused(line.format("0" + "1" * 29)), line)
            self.assertIsNone(is_refused(line.format("9" * 6000)), line)

    def test_twelve_thousand_signs_and_one_more(self):
        desk = desk_with_house()
        for many, kind in ((12000, "TooLong"), (12001, "NoLine"), (20000, "NoLine")):
            line = "could other " + "q" * (many - 12)
            with self.assertRaises(MarkError) as caught:
                desk.say(line)
            self.assertEqual(type(caught.exception).__name__, kind)

    def test_names_and_words(self):
        desk = desk_with_house()
        for name in ("b", "zz", "undo", "house", "abcdef"):
            self.assertEqual(desk.say(f"house {name} 1"), "ok")
            self.assertEqual(desk.say(f"go {name}"), "ok")
        for words in ("/a b", "a/ b", "// b", "year /late"):
            self.assertIs(is_refused(f"rule {words}"), True)


class Start(Case):
    def test_each_line_but_house_and_undo_without_a_house(self):
        for line in (*LINES, *REFUSED):
            if line.partition(" ")[0] not in ("house", "undo"):
                with self.assertRaises(NoStart):
                    Desk().say(line)

    def test_where_the_only_house_was_taken_back(self):
        desk = Desk()
        desk.say("house a 2")
        self.assertEqual(desk.say("houses"), "a")
        desk.say("undo")
        for line in ("houses", "go a", "put q1", "scheme", "order q1 / q2", "at 0 2", "read x"):
            with self.assertRaises(NoStart):
                desk.say(line)
        self.assertEqual(desk.say("house b 1"), "ok")
        self.assertEqual(desk.say("houses"), "b")

    def test_where_a_house_was_refused(self):
        desk = Desk()
        for line in ("house a 0", "house a 7", "house b 1 9"):
            with self.assertRaises(MarkError):
                desk.say(line)
        with self.assertRaises(NoStart):
            desk.say("houses")


if __name__ == "__main__":
    unittest.main()
