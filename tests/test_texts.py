"""How fields and boxes are written, and that each is read from just such a text: point 27."""

import copy
import random
import re
import unittest

from boxsums.errors import BoxError, NoText
from boxsums.reader import read_box, read_field
from boxsums.texts import show_box, show_field
from tests.samples import (GREAT_SIDES, SMALL_SIDES, THIRTY, boxes_for, fields_for, odd_things, one_field_each,
                           plain_boxes, plain_places)

FORTY = 10 ** 40 - 1
SIGNS = " \n0123456789-+.,asides~"
NO_NUMBERS = ["", "-", "-0", "00", "01", "-01", "+1", "+0", "1.0", "1e3", "0x1", "1_0", "1,2", "--1", "1-", "a", "~",
              "None", "True", "1" + "0" * 30, "-1" + "0" * 30, "9" * 31, "0" * 31, "1" * 4000, "\t1", "1\t", "(1)"]


def written(number):
    """A number, its figures put together one by one."""
    left, figures = abs(number), ""
    while left > 0 or figures == "":
        figures = "0123456789"[left % 10] + figures
        left //= 10
    return "-" + figures if number < 0 else figures


def plain_text(field):
    """A field's text: each cell behind a blank, but the first of a line, which is behind a line end."""
    sides, cells = field
    text = "sides"
    for side in sides:
        text += " " + written(side)
    for place, cell in zip(plain_places(sides), cells):
        text += ("\n" if place[-1] == 0 else " ") + written(cell)
    return text


def number_or_none(word):
    return int(word) if re.fullmatch("0|-?[1-9][0-9]{0,29}", word) else None


def sides_or_none(line):
    if not re.fullmatch("sides( [1-9][0-9]{0,29}){1,3}", line):
        return None
    sides = tuple(int(word) for word in line.split()[1:])
    many = 1
    for side in sides:
        many *= side
    return sides if many <= 120 else None


def plain_read(text):
    """The field that a text writes, or the number of the line for which it is refused."""
    lines = text.split("\n")
    sides = sides_or_none(lines[0])
    if sides is None:
        return 0
    lines_of_cells = 1
    for side in sides[:-1]:
        lines_of_cells *= side
    cells = []
    for k in range(1, lines_of_cells + 1):
        if k == len(lines):
            return k
        numbers = [number_or_none(word) for word in lines[k].split(" ")]
        if len(numbers) != sides[-1] or None in numbers:
            return k
        cells.extend(numbers)
    return lines_of_cells + 1 if len(lines) > lines_of_cells + 1 else (sides, tuple(cells))


def plain_read_box(sides, text):
    """The box that a text writes, or None."""
    place = ",".join("(0|[1-9][0-9]{0,29})" for side in sides)
    found = re.fullmatch(place + r"\.\." + place, text)
    if not found:
        return None
    numbers = [int(word) for word in found.groups()]
    box = (tuple(numbers[:len(sides)]), tuple(numbers[len(sides):]))
    right = all(0 <= a <= b < side for a, b, side in zip(box[0], box[1], sides))
    return box if right else None


def with_one_sign_other(text, indexes):
    """Whatever comes of a text by one sign put in, left out, or written over, at the told indexes."""
    for k in indexes:
        yield text[:k] + text[k + 1:]
        for sign in SIGNS:
            yield text[:k] + sign + text[k:]
            yield text[:k] + sign + text[k + 1:]
    for sign in SIGNS:
        yield text + sign


def with_one_line_other(text):
    """Whatever comes of a text by one line left out, doubled, made empty, or exchanged, or a word so."""
    lines = text.split("\n")
    for k, line in enumerate(lines):
        words = line.split(" ")
        others = [[], [line, line], [""], ["", line], [line, ""], [line + " "], [" " + line], [line.replace(" ", "  ")],
                  [line + " 0"], ["0 " + line], [line.replace(" ", "\n")], [" ".join(words[:-1])],
                  [" ".join(words[1:])], [line.replace(" ", ",")], [line + " " + line], [line.upper() + "."]]
        for other in others:
            yield "\n".join(lines[:k] + other + lines[k + 1:])
        for j in range(k):
            exchanged = list(lines)
            exchanged[j], exchanged[k] = lines[k], lines[j]
            yield "\n".join(exchanged)


def things_that_are_no_text():
    return [thing for thing in odd_things() if not isinstance(thing, str)]


class Shown(unittest.TestCase):
    def test_fields(self):
        for field in fields_for(SMALL_SIDES + [(120,), (10, 12), (4, 5, 6)]) + one_field_each(GREAT_SIDES):
            text = show_field(field)
            self.assertIs(type(text), str)
            self.assertEqual(text, plain_text(field))

    def test_boxes(self):
        for sides in SMALL_SIDES + GREAT_SIDES:
            for low, high in boxes_for(sides):
                text = show_box((low, high))
                self.assertIs(type(text), str)
                awaited = ",".join(written(n) for n in low) + ".." + ",".join(written(n) for n in high)
                self.assertEqual(text, awaited)

    def test_by_hand(self):
        self.assertEqual(show_field(((2, 3), (4, -1, 7, 0, 5, 2))), "sides 2 3\n4 -1 7\n0 5 2")
        self.assertEqual(show_field(((1,), (0,))), "sides 1\n0")
        self.assertEqual(show_field(((3, 1), (1, 2, -3))), "sides 3 1\n1\n2\n-3")
        self.assertEqual(show_field(((2, 1, 2), (1, 2, 3, 4))), "sides 2 1 2\n1 2\n3 4")
        self.assertEqual(show_box(((0, 1), (2, 3))), "0,1..2,3")
        self.assertEqual(show_box(((7,), (119,))), "7..119")
        self.assertEqual(show_box(((0, 0, 10), (3, 0, 11))), "0,0,10..3,0,11")

    def test_numbers_of_more_figures_are_shown_and_are_not_read(self):
        for number in (THIRTY + 1, -THIRTY - 1, FORTY, -FORTY, 10 ** 3999, -10 ** 3999):
            for field, line in [(((1,), (number,)), 1), (((2, 2), (1, 2, 3, number)), 2), (((1, 2), (number, 0)), 1)]:
                text = show_field(field)
                self.assertEqual(text, plain_text(field))
                with self.assertRaises(NoText) as caught:
                    read_field(text)
                self.assertEqual(caught.exception.line, line)


class FieldsRead(unittest.TestCase):
    def refused(self, text, line):
        with self.assertRaises(NoText, msg=repr(text)) as caught:
            read_field(text)
        self.assertIsInstance(caught.exception, BoxError)
        self.assertEqual((type(caught.exception.line), caught.exception.line), (int, line), repr(text))

    def read(self, text):
        """Reads the text as plain_read does; tells whether it was refused."""
        awaited = plain_read(text)
        if isinstance(awaited, int):
            self.refused(text, awaited)
            return True
        self.assertEqual(read_field(text), awaited, repr(text))
        return False

    def test_what_is_written(self):
        for field in fields_for(SMALL_SIDES + [(120,), (10, 12), (4, 5, 6)]) + one_field_each(GREAT_SIDES):
            told = read_field(plain_text(field))
            self.assertEqual(told, field)
            self.assertEqual([type(part) for part in (told,) + told], [tuple] * 3)
            self.assertEqual(show_field(told), plain_text(field))
            self.assertEqual(read_field(show_field(field)), field)

    def test_one_sign_other(self):
        for field in one_field_each(SMALL_SIDES):
            text = plain_text(field)
            many = [self.read(other) for other in with_one_sign_other(text, range(min(len(text), 60)))]
            self.assertIn(True, many)
        for field in one_field_each([(120,), (10, 12), (4, 5, 6), (120, 1), (2, 3, 20)]):
            text = plain_text(field)
            chance = random.Random(text)
            for other in with_one_sign_other(text, [chance.randrange(len(text)) for turn in range(4)]):
                self.read(other)

    def test_one_line_other(self):
        for field in one_field_each(SMALL_SIDES + [(120,), (10, 12), (4, 5, 6)]):
            for other in with_one_line_other(plain_text(field)):
                self.read(other)

    def test_words_that_write_no_number(self):
        for field in one_field_each([(1,), (3,), (2, 2), (3, 1), (1, 1, 1), (2, 1, 2), (10, 12)]):
            lines = [line.split(" ") for line in plain_text(field).split("\n")]
            for k, words in enumerate(lines):
                for j in range(len(words)):
                    for wrong in NO_NUMBERS:
                        other = words[:j] + [wrong] + words[j + 1:]
                        text = "\n".join(" ".join(row) for row in lines[:k] + [other] + lines[k + 1:])
                        self.refused(text, k)

    def test_first_lines(self):
        for first in ["sides", "sides ", "sides 0", "sides -2", "sides 2 0", "sides 0 2", "sides -1 -2", "sides 121",
                      "sides 2 61", "sides 5 5 5", "sides 1 1 1 2", "sides 1 1 1 1", "sides 2,1", "side 2", "Sides 2",
                      "SIDES 2", "sides  2", " sides 2", "sides 2 ", "sides\t2", "2", "", "sides2", "sides +2",
                      "sides 02", "sides 2.0", "sides 2x1", "sides (2,)", "sides sides 2", "sides " + "9" * 30,
                      "sides 1 " + "9" * 30, "sides 1" + "0" * 30, "sides -0", "sides 40 40 40", "sides 0 0",
                      "sides " + " ".join(["1"] * 900)]:
            for behind in ["\n1 2", "\n1", "", "\n", "\n1\n2", "\n-0", "\n1 2\n\n"]:
                self.refused(first + behind, 0)

    def test_other_sides(self):
        cells = ["1 2 3", "4 5 6"]
        for first, line in [("sides 2 3", None), ("sides 1 3", 2), ("sides 3 3", 3), ("sides 2 2", 1),
                            ("sides 2 4", 1), ("sides 6", 1), ("sides 3", 2), ("sides 3 2", 1), ("sides 1 2 3", None),
                            ("sides 2 1 3", None), ("sides 2 2 3", 3), ("sides 1 1 3", 2), ("sides 40 3", 3),
                            ("sides 1 120", 1)]:
            text = "\n".join([first] + cells)
            if line is None:
                self.assertEqual(read_field(text), (tuple(map(int, first.split()[1:])), (1, 2, 3, 4, 5, 6)))
            else:
                self.refused(text, line)

    def test_by_hand(self):
        self.assertEqual(read_field("sides 2 3\n4 -1 7\n0 5 2"), ((2, 3), (4, -1, 7, 0, 5, 2)))
        self.assertEqual(read_field("sides 1\n-" + "9" * 30), ((1,), (-THIRTY,)))
        for text, line in [("", 0), ("\n", 0), ("sides 2", 1), ("sides 2\n", 1), ("sides 2\n1", 1), ("sides 2\n1 2\n", 2),
                           ("sides 2\n1 2\n3", 2), ("\nsides 2\n1 2", 0), ("sides 2\n\n1 2", 1), ("sides 2\n1  2", 1),
                           ("sides 2\n1 2 ", 1), ("sides 2\n 1 2", 1), ("sides 2 2\n1 2", 2), ("sides 2 2\n1 2\n", 2),
                           ("sides 2 2\n1 2\n3 4\n", 3), ("sides 2 2\n1 2\n3 4\n\n\n", 3), ("sides 2 2\n1 x\n3 y\n", 1),
                           ("sides 2 2\n1 2\n3 y\n5 6", 2), ("sides 3 1\n1\n2", 3), ("sides 3 1", 1),
                           ("sides 3 1\n1\n2\n3\n4\n5", 4), ("sides 2 2\n1 2\n3", 2), ("sides 2 2\n1\n", 1)]:
            self.refused(text, line)

    def test_of_two_wrong_lines_the_first_is_told(self):
        for field in one_field_each([(4, 2), (3, 3), (2, 2, 2), (10, 12)]):
            lines = plain_text(field).split("\n")
            for k in range(1, len(lines)):
                for j in range(k + 1, len(lines)):
                    spoilt = list(lines)
                    spoilt[k] += " 1"
                    spoilt[j] += "-"
                    self.refused("\n".join(spoilt), k)
                    self.refused("\n".join(spoilt[:-1]), k)
                    self.refused("\n".join(spoilt + ["1"]), k)
                self.refused("\n".join(lines[:k]), k)
                self.refused("\n".join(lines[:k] + [""] + lines), k)

    def test_long_texts(self):
        for text, line in [("sides 120\n" + "1 " * 4900, 1), ("a" * 10000, 0), ("\n" * 10000, 0), (" " * 10000, 0),
                           ("sides 1 1\n1" + "\n1" * 4900, 2), ("sides 1\n" + "1" * 9000, 1),
                           ("sides " + "1" * 9000, 0), ("sides 1\n-" + "0" * 9000, 1)]:
            self.refused(text, line)

    def test_what_is_no_text(self):
        for thing in things_that_are_no_text() + [["sides 1", "0"], ("sides 1\n0",), ["sides 1\n0"], ((1,), (0,))]:
            kept = copy.deepcopy(thing)
            self.refused(thing, 0)
            self.assertEqual(thing, kept)


class BoxesRead(unittest.TestCase):
    def refused(self, sides, text):
        with self.assertRaises(NoText, msg=repr((sides, text))) as caught:
            read_box(sides, text)
        self.assertIsInstance(caught.exception, BoxError)
        self.assertEqual((type(caught.exception.line), caught.exception.line), (int, 0))

    def read(self, sides, text):
        awaited = plain_read_box(sides, text)
        if awaited is None:
            self.refused(sides, text)
        else:
            told = read_box(sides, text)
            self.assertEqual(told, awaited)
            self.assertEqual([type(part) for part in (told,) + told], [tuple] * 3)

    def test_what_is_written(self):
        for sides in SMALL_SIDES + GREAT_SIDES:
            for box in boxes_for(sides):
                text = show_box(box)
                self.assertEqual(read_box(sides, text), box)
                self.read(sides, text)

    def test_one_sign_other(self):
        for sides in [(1,), (4,), (120,), (2, 3), (10, 12), (1, 1, 1), (2, 2, 2), (4, 5, 6)]:
            for box in boxes_for(sides, 6)[:12]:
                text = show_box(box)
                for other in with_one_sign_other(text, range(len(text))):
                    self.read(sides, other)

    def test_boxes_of_other_sides(self):
        for sides in [(2,), (4,), (2, 3), (3, 2), (2, 2, 2), (3, 1, 2)]:
            for others in [(3,), (5,), (3, 3), (2, 4), (3, 2, 2), (2, 3, 3)]:
                for box in plain_boxes(others):
                    self.read(sides, show_box(box))

    def test_words_that_write_no_number(self):
        for sides in [(120,), (10, 12), (4, 5, 6)]:
            right = ["1"] * len(sides)
            self.read(sides, ",".join(right) + ".." + ",".join(right))
            for k in range(len(sides)):
                for wrong in NO_NUMBERS + ["-1", "120", "9" * 30, "-" + "9" * 30, "1 ", " 1", "1\n", "\n1"]:
                    words = ",".join(right[:k] + [wrong] + right[k + 1:])
                    self.refused(sides, words + ".." + ",".join(right))
                    self.refused(sides, ",".join(right) + ".." + words)

    def test_by_hand(self):
        self.assertEqual(read_box((3, 4), "0,1..2,3"), ((0, 1), (2, 3)))
        self.assertEqual(read_box((120,), "7..119"), ((7,), (119,)))
        for text in ["", "..", "0", "0..", "..0", "0.0", "0...0", "0....0", "0..0..0", "1..0", "0..4", "-1..0", "-0..0",
                     "0,0..0,0", "0 ..0", "0.. 0", " 0..0", "0..0 ", "0..0\n", "\n0..0", "00..0", "0..01", "0;0", "(0)..(0)",
                     "0,..0", ",0..0", "0-0", "a..b", "0:0", "+0..0", "0,0", "0.. .0", "((0,), (0,))", ". .", "0. .0"]:
            self.refused((4,), text)
        for text in ["0..0", "0,0..0", "0..0,0", "0,0,0..0,0,0", "0,0..1", "0,1..1,0", "1,0..0,1", "0,0..2,0", "0,0..0,2",
                     "0,0,..0,0", "0,,0..0,0", "0, 0..0,0", "0,0..0,0,", "0,0 0,0", "0,0,0,0"]:
            self.refused((2, 2), text)

    def test_what_is_no_text(self):
        for sides in [(1,), (2, 3), (1, 1, 1)]:
            first = tuple(0 for side in sides)
            for thing in things_that_are_no_text() + [(first, first), [show_box((first, first))]]:
                kept = copy.deepcopy(thing)
                self.refused(sides, thing)
                self.assertEqual(thing, kept)
