"""The desk: its rows, its answers and its refusals: point 28."""

import copy
import itertools
import random
import unittest

from boxsums.desk import Desk
from boxsums.errors import BoxError, NoBack, NoBox, NoNumber, NoRow, NoText
from tests.samples import (SMALL_SIDES, THIRTY, boxes_for, lies_in, odd_things, one_field_each, plain_boxes,
                           plain_places, plain_told)
from tests.test_halves import plain_cover
from tests.test_steps import plain_running
from tests.test_texts import (NO_NUMBERS, number_or_none, plain_read, plain_read_box, plain_text, with_one_line_other,
                              with_one_sign_other, written)

FORTY = 10 ** 40 - 1
GREAT = [(120,), (10, 12), (4, 5, 6), (1, 40), (2, 3, 7)]
FORMS = {"put": "PN", "lift": "BN", "back": "", "sum": "B", "least": "B", "greatest": "B", "cover": "B", "best": "",
         "count": "N", "less": "BN", "nth": "BN", "holds": "NL", "text": ""}


def shown_place(place):
    return ",".join(written(number) for number in place)


def shown(box):
    return shown_place(box[0]) + ".." + shown_place(box[1])


def whole_box(sides):
    places = plain_places(sides)
    return (places[0], places[-1])


class PlainDesk:
    """The plain cells, and all that was ahead of each deed."""

    def __init__(self, field):
        self.sides = field[0]
        self.cells = dict(zip(plain_places(field[0]), field[1]))
        self.past = []

    def field(self):
        return (self.sides, tuple(self.cells[place] for place in plain_places(self.sides)))

    def cells_in(self, box):
        return [cell for place, cell in self.cells.items() if lies_in(place, box)]

    def deed(self, box, change):
        self.past.append(dict(self.cells))
        for place in self.cells:
            if lies_in(place, box):
                self.cells[place] = change(self.cells[place])

    def put(self, place, number):
        self.deed((place, place), lambda cell: number)

    def lift(self, box, number):
        self.deed(box, lambda cell: cell + number)

    def back(self):
        self.cells = self.past.pop()

    def best(self):
        sums = [(sum(self.cells_in(box)), box) for box in plain_boxes(self.sides)]
        most = max(total for total, box in sums)
        return written(most) + " " + shown(min(box for total, box in sums if total == most))

    def count(self, number):
        return len([box for box in plain_boxes(self.sides) if sum(self.cells_in(box)) == number])


def box_rows(plain, box):
    """Questions of a box, with the awaited answers."""
    cells = plain.cells_in(box)
    told = plain_told(cells)
    word = shown(box)
    pairs = [(f"sum {word}", written(told[0])), (f"least {word}", written(told[1])),
             (f"greatest {word}", written(told[2]))]
    ways = [plain_cover(side, a, b) for side, a, b in zip(plain.sides, box[0], box[1])]
    pieces = sorted(tuple(zip(*stretches)) for stretches in itertools.product(*ways))
    pairs.append((f"cover {word}", " ".join(shown(piece) for piece in pieces)))
    for number in (0, told[1], told[2], told[2] + 1, -5, THIRTY, -THIRTY):
        if abs(number) <= THIRTY:
            less = len([cell for cell in cells if cell < number])
            pairs.append((f"less {word} {number}", written(less)))
    for many in sorted({0, len(cells) // 2, len(cells) - 1}):
        pairs.append((f"nth {word} {many}", written(sorted(cells)[many])))
    return pairs


def field_rows(plain):
    """Questions of the whole field, with the awaited answers; best and count only of few cells."""
    field = plain.field()
    pairs = [("text", plain_text(field))]
    running = plain_running(*field)
    for table in [running, running[:-1] + [7], running + [0], running[1:] + [running[0]], running[:-1], [-THIRTY]]:
        if table and all(abs(number) <= THIRTY for number in table):
            pairs.append((holds_row(table), "yes" if table == running else "no"))
    if len(plain.cells) <= 12:
        pairs.append(("best", plain.best()))
        for number in (0, 1, -THIRTY, sum(field[1]), field[1][-1]):
            if abs(number) <= THIRTY:
                pairs.append((f"count {number}", written(plain.count(number))))
    return pairs


def holds_row(numbers):
    return f"holds {len(numbers)} " + ",".join(written(number) for number in numbers)


def some_deeds(sides, many):
    """Deeds as rows with what they do to a plain desk."""
    chance = random.Random(f"desk {sides}")
    numbers = [0, 1, -1, 9, -30, THIRTY, -THIRTY]
    first, last = whole_box(sides)
    deeds = [("put", first, 5), ("lift", (first, last), 2), ("lift", (first, last), 0), ("put", last, -1),
             ("put", last, -1), ("lift", (last, last), -3)]
    while len(deeds) < many:
        if chance.random() < 0.4:
            deeds.append(("put", chance.choice(plain_places(sides)), chance.choice(numbers)))
        else:
            deeds.append(("lift", chance.choice(boxes_for(sides, 20)), chance.choice(numbers)))
    return deeds


def row_of(deed):
    word = shown_place(deed[1]) if deed[0] == "put" else shown(deed[1])
    return f"{deed[0]} {word} {deed[2]}"


def do(plain, deed):
    if deed[0] == "put":
        plain.put(*deed[1:])
    else:
        plain.lift(*deed[1:])


class Asked(unittest.TestCase):
    def say(self, desk, row, awaited):
        told = desk.say(row)
        self.assertIs(type(told), str)
        self.assertEqual(told, awaited, row)

    def answers(self, desk, plain, chance, most=4):
        boxes = boxes_for(plain.sides, 12)
        asked = field_rows(plain)
        for box in chance.sample(boxes, min(most, len(boxes))):
            asked.extend(box_rows(plain, box))
        chance.shuffle(asked)
        for row, awaited in asked:
            self.say(desk, row, awaited)

    def test_behind_each_deed_and_each_back(self):
        for field in one_field_each(SMALL_SIDES + GREAT):
            chance = random.Random(f"asked {field[0]}")
            desk, plain = Desk(plain_text(field)), PlainDesk(field)
            self.answers(desk, plain, chance, 12)
            for deed in some_deeds(field[0], 12):
                self.say(desk, row_of(deed), "ok")
                do(plain, deed)
                self.answers(desk, plain, chance)
            while plain.past:
                self.say(desk, "back", "ok")
                plain.back()
                self.say(desk, "text", plain_text(plain.field()))
                self.answers(desk, plain, chance, 1)
            self.assertEqual(plain.field(), field)
            for turn in range(2):
                with self.assertRaises(NoBack) as caught:
                    desk.say("back")
                self.assertIsInstance(caught.exception, BoxError)
                self.say(desk, "text", plain_text(field))

    def test_deeds_and_backs_mixed(self):
        for field in one_field_each([(1,), (5,), (2, 3), (2, 2, 2), (120,)]):
            chance = random.Random(f"mixed {field[0]}")
            desk, plain = Desk(plain_text(field)), PlainDesk(field)
            for deed in some_deeds(field[0], 40):
                if chance.random() < 0.45 and plain.past:
                    self.say(desk, "back", "ok")
                    plain.back()
                else:
                    self.say(desk, row_of(deed), "ok")
                    do(plain, deed)
                self.say(desk, "text", plain_text(plain.field()))

    def test_every_box_of_small_fields(self):
        for field in one_field_each(SMALL_SIDES):
            desk, plain = Desk(plain_text(field)), PlainDesk(field)
            for box in plain_boxes(field[0]):
                for row, awaited in box_rows(plain, box):
                    self.say(desk, row, awaited)
                cells = sorted(plain.cells_in(box))
                for many, cell in enumerate(cells):
                    self.say(desk, f"nth {shown(box)} {many}", written(cell))

    def test_best_and_count_of_greater_fields(self):
        for field in one_field_each([(40,), (5, 8), (3, 3, 4)]):
            desk, plain = Desk(plain_text(field)), PlainDesk(field)
            for deed in [("put", whole_box(field[0])[1], 3), ("lift", whole_box(field[0]), -2)]:
                desk.say(row_of(deed))
                do(plain, deed)
                self.say(desk, "best", plain.best())
                for number in (0, 1, -2):
                    self.say(desk, f"count {number}", written(plain.count(number)))

    def test_cells_that_leave_thirty_figures(self):
        field = ((2, 2), (THIRTY, -THIRTY, 0, 1))
        desk, plain = Desk(plain_text(field)), PlainDesk(field)
        chance = random.Random("thirty")
        for turn in range(12):
            for deed in [("lift", ((0, 0), (1, 0)), THIRTY), ("lift", ((0, 1), (1, 1)), -THIRTY)]:
                self.say(desk, row_of(deed), "ok")
                do(plain, deed)
                self.answers(desk, plain, chance)
        text = desk.say("text")
        self.assertEqual(text, f"sides 2 2\n{13 * THIRTY} {-13 * THIRTY}\n{12 * THIRTY} {1 - 12 * THIRTY}")
        with self.assertRaises(NoText) as caught:
            Desk(text)
        self.assertEqual(caught.exception.line, 1)
        self.say(desk, "put 0,0 4", "ok")
        self.say(desk, "back", "ok")
        self.say(desk, "text", text)

    def test_by_hand(self):
        desk = Desk("sides 2 3\n4 -1 7\n0 5 2")
        for row, awaited in [
                ("sum 0,1..1,2", "13"), ("least 0,1..1,2", "-1"), ("greatest 0,1..1,2", "7"),
                ("cover 0,1..1,2", "0,1..1,1 0,2..1,2"), ("cover 0,0..1,2", "0,0..1,2"), ("best", "17 0,0..1,2"),
                ("count 7", "3"), ("count 100", "0"), ("less 0,0..1,2 2", "2"), ("less 0,0..0,0 5", "1"),
                ("nth 0,0..1,2 0", "-1"), ("nth 0,0..1,2 5", "7"), ("nth 0,0..1,2 2", "2"),
                ("holds 6 4,3,10,4,8,17", "yes"), ("holds 6 4,3,10,4,8,18", "no"), ("holds 1 4", "no"),
                ("holds 7 4,3,10,4,8,17,0", "no"), ("text", "sides 2 3\n4 -1 7\n0 5 2"), ("put 1,1 -9", "ok"),
                ("sum 0,1..1,2", "-1"), ("best", "10 0,0..0,2"), ("lift 0,0..1,0 10", "ok"),
                ("text", "sides 2 3\n14 -1 7\n10 -9 2"), ("back", "ok"), ("text", "sides 2 3\n4 -1 7\n0 -9 2"),
                ("back", "ok"), ("text", "sides 2 3\n4 -1 7\n0 5 2")]:
            self.say(desk, row, awaited)
        row = Desk("sides 5\n1 2 3 4 5")
        for said, awaited in [("cover 1..4", "1..1 2..2 3..4"), ("sum 1..4", "14"), ("put 4 0", "ok"),
                              ("lift 0..4 -1", "ok"), ("text", "sides 5\n0 1 2 3 -1"), ("best", "6 0..3"),
                              ("holds 5 0,1,3,6,5", "yes"), ("holds 5 0,1,3,6,-5", "no")]:
            self.say(row, said, awaited)


class Apart(unittest.TestCase):
    def test_two_desks(self):
        text = "sides 2 2\n1 2\n3 4"
        one, other = Desk(text), Desk(text)
        one.say("put 0,0 9")
        self.assertEqual(other.say("text"), text)
        with self.assertRaises(NoBack):
            other.say("back")
        other.say("lift 0,0..1,1 1")
        self.assertEqual(one.say("text"), "sides 2 2\n9 2\n3 4")
        one.say("back")
        self.assertEqual((one.say("text"), other.say("text")), (text, "sides 2 2\n2 3\n4 5"))

    def test_a_desk_of_a_told_text_goes_on_from_there(self):
        for field in one_field_each(SMALL_SIDES + GREAT):
            desk = Desk(plain_text(field))
            for deed in some_deeds(field[0], 5):
                desk.say(row_of(deed))
            text = desk.say("text")
            if isinstance(plain_read(text), int):
                continue
            other = Desk(text)
            self.assertEqual(other.say("text"), text)
            with self.assertRaises(NoBack):
                other.say("back")
            other.say(row_of(some_deeds(field[0], 6)[5]))
            desk.say(row_of(some_deeds(field[0], 6)[5]))
            self.assertEqual(other.say("text"), desk.say("text"))

    def test_texts_that_are_no_field(self):
        for field in one_field_each([(1,), (3,), (2, 2), (2, 1, 2), (10, 12)]):
            text = plain_text(field)
            others = list(with_one_line_other(text)) + list(with_one_sign_other(text, range(0, min(len(text), 40), 3)))
            for other in others:
                awaited = plain_read(other)
                if not isinstance(awaited, int):
                    self.assertEqual(Desk(other).say("text"), plain_text(awaited))
                    continue
                with self.assertRaises(NoText) as caught:
                    Desk(other)
                self.assertEqual(caught.exception.line, awaited)

    def test_what_is_no_text(self):
        for thing in odd_things():
            with self.assertRaises(NoText) as caught:
                Desk(thing)
            self.assertEqual(caught.exception.line, 0)


def plain_refusal(sides, row):
    """The refusal that is due for a row by its words, or None; a back is not asked whether there is one."""
    if type(row) is not str:
        return NoRow
    words = row.split(" ")
    if words[0] not in FORMS or len(words) != 1 + len(FORMS[words[0]]):
        return NoRow
    numbers = []
    for kind, word in zip(FORMS[words[0]], words[1:]):
        if kind == "P" and plain_read_box(sides, f"{word}..{word}") is None:
            return NoBox
        if kind == "B" and plain_read_box(sides, word) is None:
            return NoBox
        if kind == "N":
            numbers.append(number_or_none(word))
            if numbers[0] is None or (words[0] == "holds" and numbers[0] < 1):
                return NoNumber
        if kind == "L":
            parts = [number_or_none(part) for part in word.split(",")]
            if None in parts or len(parts) != numbers[0]:
                return NoNumber
    if words[0] == "nth":
        low, high = plain_read_box(sides, words[1])
        many = 1
        for a, b in zip(low, high):
            many *= b - a + 1
        if not 0 <= numbers[0] < many:
            return NoNumber
    return None


def right_rows(sides):
    """One row of each form, and some more."""
    box = whole_box(sides)
    many = len(plain_places(sides))
    place, word = shown_place(box[1]), shown(box)
    return [f"put {place} 7", f"lift {word} -2", "back", f"sum {word}", f"least {word}", f"greatest {word}",
            f"cover {word}", "best", "count 3", f"less {word} 3", f"nth {word} {many - 1}", "holds 2 3,-4",
            "holds 1 0", "text"]


class Refused(unittest.TestCase):
    def desk(self, sides):
        """A desk with deeds that can be taken back."""
        desk = Desk(plain_text((sides, tuple(range(len(plain_places(sides)))))))
        word = shown(whole_box(sides))
        for number in (1, 10, 100):
            desk.say(f"lift {word} {number}")
        return desk

    def texts(self, desk):
        """The desk's text, and those that come by taking all back; the desk is as before behind it."""
        desk = copy.deepcopy(desk)
        found = [desk.say("text")]
        while True:
            try:
                desk.say("back")
            except NoBack:
                return found
            found.append(desk.say("text"))

    def refused(self, desk, row, error):
        kept = copy.deepcopy(row)
        with self.assertRaises(error, msg=repr(row)) as caught:
            desk.say(row)
        self.assertIsInstance(caught.exception, BoxError)
        self.assertEqual(row, kept)

    def said(self, sides, row):
        """Tells the row to a desk that is refused it, or not, as plain_refusal tells."""
        desk = self.desk(sides)
        error = plain_refusal(sides, row)
        if error is None:
            desk.say(row)
            return
        ahead = self.texts(desk)
        self.refused(desk, row, error)
        self.assertEqual(self.texts(desk), ahead)

    def test_rows_with_one_sign_other(self):
        for sides in [(4,), (2, 3), (2, 1, 2)]:
            for row in right_rows(sides):
                self.assertIsNone(plain_refusal(sides, row))
                desk = self.desk(sides)
                for other in with_one_sign_other(row, range(len(row))):
                    error = plain_refusal(sides, other)
                    if error is None:
                        self.desk(sides).say(other)
                    else:
                        self.refused(desk, other, error)
                self.assertEqual(self.texts(desk), self.texts(self.desk(sides)))

    def test_rows_with_one_word_other(self):
        words = ["", "0", "-1", "1", "0..0", "0,0..0,0", "0,0", "0,0,0", "0,0,0..0,0,0", "1..0", "0..9", "x", "0..", "sum",
                 "3,3", "3,,3", ",3", "3,", "3,x", "3,01", "120", "\n"] + NO_NUMBERS
        for sides in [(1,), (4,), (2, 3), (2, 1, 2)]:
            for row in right_rows(sides):
                parts = row.split(" ")
                desk = self.desk(sides)
                ahead = self.texts(desk)
                for k in range(len(parts)):
                    others = [parts[:k] + [word] + parts[k + 1:] for word in words]
                    others += [parts[:k] + parts[k + 1:], parts[:k] + [parts[k]] * 2 + parts[k + 1:],
                               parts[:k] + [""] + parts[k:]]
                    for other in [" ".join(one) for one in others]:
                        error = plain_refusal(sides, other)
                        if error is None:
                            self.desk(sides).say(other)
                        else:
                            self.refused(desk, other, error)
                self.assertEqual(self.texts(desk), ahead)

    def test_two_words_other(self):
        words = ["", "x", "01", "0", "1", "2", "-3", "0..0", "0,0..1,1", "0..1", "1,1", "9" * 31, "3,4"]
        for sides in [(4,), (2, 3)]:
            desk = self.desk(sides)
            ahead = self.texts(desk)
            for first in ("put", "lift", "less", "nth", "holds"):
                for one, other in itertools.product(words, repeat=2):
                    row = f"{first} {one} {other}"
                    error = plain_refusal(sides, row)
                    if error is None:
                        self.desk(sides).say(row)
                    else:
                        self.refused(desk, row, error)
            self.assertEqual(self.texts(desk), ahead)

    def test_by_hand(self):
        for row, error in [
                ("", NoRow), (" ", NoRow), ("  ", NoRow), ("text ", NoRow), (" text", NoRow), ("Text", NoRow),
                ("texts", NoRow), ("text\n", NoRow), ("\ntext", NoRow), ("back 1", NoRow), ("best 0,0", NoRow),
                ("put", NoRow), ("put 0,0", NoRow), ("put 0,0 1 2", NoRow), ("put  0,0 1", NoRow), ("put 0,0  1", NoRow),
                ("sum", NoRow), ("sum 0,0..0,0 ", NoRow), ("sum x y", NoRow), ("count", NoRow), ("count 1 x", NoRow),
                ("nth 9", NoRow), ("holds 1", NoRow), ("holds 2 1 2", NoRow), ("sum\n0,0..0,0", NoRow),
                ("less 0,0..0,0", NoRow), ("lift 0,0..0,0", NoRow), ("greatest", NoRow), ("get 0,0", NoRow),
                ("sum ", NoBox), ("put  1", NoBox), ("put x y", NoBox), ("put 2,0 y", NoBox), ("put 0,3 1", NoBox),
                ("put 0 1", NoBox), ("put 0,0,0 1", NoBox), ("put -0,0 1", NoBox), ("put 0,-1 1", NoBox),
                ("put 0,0..0,0 1", NoBox), ("lift 0,0 1", NoBox), ("lift 0,1..0,0 z", NoBox), ("sum 0..1", NoBox),
                ("sum 0,0..2,0", NoBox), ("least 00,0..0,0", NoBox), ("greatest 1,1", NoBox), ("cover 0,0..0,3", NoBox),
                ("less 9 9", NoBox), ("less 9 x", NoBox), ("nth  99", NoBox), ("nth 1,1..0,0 -1", NoBox),
                ("put 0,0 ", NoNumber), ("put 0,0 x", NoNumber), ("put 0,0 -0", NoNumber), ("put 0,0 01", NoNumber),
                ("put 0,0 +1", NoNumber), ("put 0,0 1.0", NoNumber), ("put 0,0 1" + "0" * 30, NoNumber),
                ("put 0,0 1\n", NoNumber), ("lift 0,0..1,1 1,1", NoNumber), ("lift 0,0..1,1 -1" + "0" * 30, NoNumber),
                ("count ", NoNumber), ("count x", NoNumber), ("count " + "1" * 40, NoNumber), ("less 0,0..0,0 ", NoNumber),
                ("nth 0,0..0,0 1", NoNumber), ("nth 0,0..0,0 -1", NoNumber), ("nth 0,0..1,2 6", NoNumber),
                ("nth 0,0..0,0 x", NoNumber), ("nth 0,0..0,0 " + "9" * 30, NoNumber), ("holds 0 ", NoNumber),
                ("holds 0 1", NoNumber), ("holds -1 1", NoNumber), ("holds 2 1", NoNumber), ("holds 1 1,2", NoNumber),
                ("holds x 1", NoNumber), ("holds 1 x", NoNumber), ("holds 2 1,", NoNumber), ("holds 2 ,1", NoNumber),
                ("holds 01 1", NoNumber), ("holds 1 01", NoNumber), ("holds  1", NoNumber), ("holds 1 ", NoNumber),
                ("holds 6 4,3,10,4,8," + "1" * 31, NoNumber), ("holds 2 1.2", NoNumber), ("holds 2 1, 2", NoRow)]:
            self.assertIs(plain_refusal((2, 3), row), error, row)
            self.said((2, 3), row)

    def test_rows_that_are_no_text(self):
        for sides in [(1,), (2, 3)]:
            desk = self.desk(sides)
            ahead = self.texts(desk)
            for thing in odd_things() + [["text"], ("text",), ["sum", "0..0"], {"text": "text"}]:
                self.refused(desk, thing, NoRow)
            self.assertEqual(self.texts(desk), ahead)

    def test_refused_rows_are_no_deeds(self):
        desk = Desk("sides 2\n1 2")
        for row in ["put 0 x", "put 2 1", "lift 0..2 1", "lift 0..1 x", "lift 0..1", "sum 0..2", "nth 0..0 1"]:
            with self.assertRaises(BoxError):
                desk.say(row)
            self.refused(desk, "back", NoBack)
        self.assertEqual(desk.say("put 0 5"), "ok")
        for row in ["put 0 x", "put 2 1", "lift 0..2 1", "lift 0..1 x", "back 1", "back "]:
            with self.assertRaises(BoxError):
                desk.say(row)
        self.assertEqual((desk.say("back"), desk.say("text")), ("ok", "sides 2\n1 2"))
        self.refused(desk, "back", NoBack)
        self.assertEqual(desk.say("text"), "sides 2\n1 2")

    def test_greatest_numbers_that_are_read(self):
        desk = Desk("sides 2\n0 0")
        nines = "9" * 30
        for row, awaited in [(f"put 0 {nines}", "ok"), (f"lift 0..1 -{nines}", "ok"), ("text", f"sides 2\n0 -{nines}"),
                             (f"count -{nines}", "2"), (f"less 0..1 {nines}", "2"), (f"less 0..1 -{nines}", "0"),
                             (f"holds 2 0,-{nines}", "yes"), (f"holds 2 {nines},-{nines}", "no")]:
            self.assertEqual(desk.say(row), awaited)
