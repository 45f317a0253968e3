"""What is promised over the whole program: points [1] and [9], and [7] for all of it."""

import itertools
import os
import random
import subprocess
import sys
import unittest

from spinemarks.between import room, shortest
from spinemarks.borders import borders, sought
from spinemarks.classes import Scheme
from spinemarks.concord import classed_apart, related
from spinemarks.counts import how_many
from spinemarks.desk import Desk
from spinemarks.errors import Full, MarkError, Missing, NoMark, There
from spinemarks.filed import filed, unfiled
from spinemarks.numbering import mark_at, number_of
from spinemarks.order import first_wrong, order
from spinemarks.parted import alike, parted
from spinemarks.reading import begins, read_mark
from spinemarks.rules import Rule
from spinemarks.settled import settles, turned
from spinemarks.shelves import Shelves
from spinemarks.short import Shorts
from spinemarks.shortpaper import shows_short
from spinemarks.slips import KINDS, slipped
from spinemarks.wrong import bars, row_slips
from tests.helper import TEXTS, Case, mark_of, marks_of, put_in_order
from tests.test_classes import schemes_by_chance
from tests.test_rules import rules_by_chance

# Lines for a desk that ask each part of the program, told in a run of its own.
SCRIPT = """
from spinemarks.desk import Desk
desk = Desk()
for line in (
    "house a 2 1 2", "put q5", "put q76.9 k52 w61 1998 c.2", "put q9", "put q7", "put q8", "show", "border 1", "sought q8.5", "signs",
    "rule year late / number figures", "ruled", "scheme b q5 q9 / a q1 q99 / c r1 r2", "chain q7", "holds a", "house b 3", "apart a",
    "parted a", "settles q9 / q76", "between q9 / q9.1", "spread 5 q1 / q2", "number 40 q9", "at 12345678901234567890 60",
    "after 9 q9", "could other q1 k55 1998", "wrong turned q1 / 2q / q3", "undo", "undo", "show",
):
    print(desk.say(line))
"""


def run_alone(seed):
    folder = os.path.dirname(os.path.dirname(os.path.abspath(__file__)))
    environment = {**os.environ, "PYTHONPATH": folder, "PYTHONHASHSEED": str(seed)}
    told = subprocess.run([sys.executable, "-c", SCRIPT], capture_output=True, text=True, check=True, env=environment)
    return told.stdout


class Whole(Case):
    def pairs(self, many, seed):
        chance = random.Random(seed)
        return [marks_of(*chance.sample(TEXTS, 2)) for _ in range(many)]

    def test_nothing_hangs_on_chance(self):
        first = run_alone(1)
        self.assertEqual(len(first.splitlines()), 29)
        self.assertEqual(run_alone(2), first)

    def test_two_unlike_marks_come_in_just_one_order(self):
        for one, other in self.pairs(150, 38):
            sign = order(one, other)
            self.assertEqual((sign, order(other, one)), (-1, 1) if one.ahead(other) else (1, -1))
            self.assertEqual((one.key() < other.key(), filed(one) < filed(other)), (sign < 0, sign < 0))
            self.assertEqual(unfiled(filed(one)), one)
            told, many, _ = settles(one, other)
            self.assertEqual(told, sign)
            self.assertIsNone(turned(one, other, many))
            if many > 0:
                self.assertEqual(order(*turned(one, other, many - 1)), -sign)

    def test_numbers_without_a_gap(self):
        marks = [mark_at(number, 3) for number in range(how_many(3))]
        self.assertIsNone(first_wrong(marks))
        self.assertEqual([number_of(mark, 3) for mark in marks], list(range(how_many(3))))
        for one, other in self.pairs(60, 39):
            numbers = [number_of(mark, 60) for mark in (one, other)]
            self.assertEqual(numbers[0] < numbers[1], one.ahead(other))
            self.assertEqual([mark_at(number, 60) for number in numbers], [one, other])

    def test_room_for_ever(self):
        for low, high in self.pairs(40, 40):
            low, high = (low, high) if low.ahead(high) else (high, low)
            if low.same_book(high) and (high.copy_number() or 1) - (low.copy_number() or 1) == 1:
                continue
            for _ in range(8):
                self.assertTrue(room(low, high))
                mark = shortest(low, high)
                self.assertTrue(low.ahead(mark) and mark.ahead(high))
                # A later copy of low itself may have no room ahead of it.
                low, high = (mark, high) if mark.same_book(low) else (low, mark)
                if low.same_book(high):
                    break
        self.assertFalse(room(None, mark_of("a1")))
        self.assertFalse(room(mark_of("q1"), mark_of("q1 c.2")))

    def test_texts_are_read_or_refused_at_the_first_wrong_sign(self):
        chance = random.Random(41)
        for _ in range(300):
            text = chance.choice(TEXTS)
            at = chance.randint(0, len(text))
            text = text[:at] + chance.choice(" .0129ackz") + text[at + chance.randint(0, 1):]
            try:
                self.assertEqual(str(read_mark(text)), text)
            except NoMark as refusal:
                self.assertTrue(begins(text[:refusal.at]))
                self.assertTrue(refusal.at == len(text) or not begins(text[:refusal.at + 1]))

    def test_a_wrong_sign_that_the_neighbours_bar_is_found(self):
        chance = random.Random(42)
        found = 0
        for _ in range(150):
            texts = put_in_order(chance.sample([text for text in TEXTS if len(text) < 40], 4))
            at = chance.randrange(4)
            kind = chance.choice(KINDS)
            mark = mark_of(texts[at])
            try:
                wrong = slipped(mark, kind, chance.randrange(len(mark)), chance.choice("019.ak "))
            except MarkError:
                continue
            row = [*texts[:at], wrong, *texts[at + 1:]]
            if len(wrong) <= 40 and bars(row):
                self.assertIn((at, mark), row_slips(row, kind))
                found += 1
        self.assertGreater(found, 60)

    def test_short_rows(self):
        chance = random.Random(43)
        short = [text for text in TEXTS if len(text) <= 20]
        for _ in range(15):
            marks = marks_of(*put_in_order(chance.sample(short, 5)))
            shorts = Shorts(marks)
            self.assertIsNone(first_wrong(shorts.row()))
            self.assertTrue(shows_short(marks, shorts.signs(), shorts.paper()))
            self.assertFalse(shows_short(marks, shorts.signs() + 1, shorts.paper()))

    def test_classes_schemes_and_rules(self):
        for one, other in itertools.pairwise([Scheme(rows) for rows in schemes_by_chance()]):
            mark = classed_apart(one, other)
            self.assertEqual(mark is None, one == other)
            self.assertEqual(mark is None or one.chain(mark) != other.chain(mark), True)
            for name in one.names():
                self.assertEqual(related(one, name, one, name), "same")
        for one, other in itertools.pairwise([Rule(steps) for steps in rules_by_chance(60, 44)]):
            marks = parted(one, other)
            self.assertEqual(marks is None, alike(one, other))
            self.assertEqual(marks is None or one.order(*marks) != other.order(*marks), True)

    def test_on_shelves_each_book_stands_where_it_is_sought(self):
        chance = random.Random(45)
        for _ in range(12):
            house = Shelves([chance.randint(1, 4) for _ in range(6)])
            for text in chance.choices(TEXTS, k=30):
                mark = mark_of(text)
                try:
                    house.put(mark) if chance.random() < 0.7 else house.take(mark)
                except (There, Full, Missing):
                    pass
                for at, row in enumerate(house.rows()):
                    for book in row:
                        self.assertEqual((sought(house, book), house.shelf_with(book)), (at, at))
            edges = [edge for edge in borders(house) if edge is not None]
            self.assertIsNone(first_wrong(edges))

    def test_a_desk_tells_the_same_of_the_same_lines(self):
        lines = ["house a 2 2", "put q9", "put q10", "put q9.5", "rule number figures", "ruled", "show", "undo", "show"]
        self.assertEqual(*[[desk.say(line) for line in lines] for desk in (Desk(), Desk())])


if __name__ == "__main__":
    unittest.main()
