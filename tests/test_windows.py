"""Moving windows and the line of a row: points 24 and 25."""

import copy
import itertools
import random
import unittest

from boxsums.errors import BoxError, NoBox
from boxsums.windows import line, windows
from tests.samples import (GREAT_ROWS, GREAT_SIDES, SMALL_ROWS, SMALL_SIDES, THIRTY, deep, fields_for, lies_in,
                           odd_things, one_field_each, one_row_each, plain_places, rows_for, wrong_numbers)

FORTY = 10 ** 40 - 1


def plain_windows(field, sizes):
    """Each window gone through cell by cell over the whole field."""
    sides, cells = field
    told = []
    for place in plain_places(sides):
        high = tuple(number + size - 1 for number, size in zip(place, sizes))
        if any(number >= side for number, side in zip(high, sides)):
            continue
        least = greatest = None
        for other, cell in zip(plain_places(sides), cells):
            if lies_in(other, (place, high)):
                if least is None or cell < least[0]:
                    least = (cell, other)
                if greatest is None or cell > greatest[0]:
                    greatest = (cell, other)
        told.append((place,) + least + greatest)
    return told


def all_sizes(sides):
    return list(itertools.product(*[range(1, side + 1) for side in sides]))


def some_sizes(sides, most=12):
    ends = [sorted({1, (side + 1) // 2, side}) for side in sides]
    sizes = list(itertools.product(*ends))
    chance = random.Random(f"sizes {sides}")
    while len(sizes) < most:
        sizes.append(tuple(chance.randrange(1, side + 1) for side in sides))
    return sizes


class Windows(unittest.TestCase):
    def right(self, field, sizes):
        told = windows(field, sizes)
        self.assertIs(type(told), list)
        self.assertEqual(told, plain_windows(field, sizes), (field, sizes))
        for window in told:
            self.assertEqual([type(window[k]) for k in (0, 2, 4)], [tuple] * 3)
            self.assertEqual((type(window), len(window)), (tuple, 5))

    def test_every_sizes_of_small_fields(self):
        for field in fields_for(SMALL_SIDES):
            for sizes in all_sizes(field[0]):
                self.right(field, sizes)

    def test_great_fields(self):
        for field in one_field_each(GREAT_SIDES):
            for sizes in some_sizes(field[0]):
                self.right(field, sizes)

    def test_great_fields_of_alike_and_of_great_numbers(self):
        chance = random.Random("windows")
        for sides in [(120,), (10, 12), (4, 5, 6)]:
            for choice in [[7], [-THIRTY], [0, 1], [THIRTY, -THIRTY, 0]]:
                field = (sides, tuple(chance.choice(choice) for k in range(120)))
                for sizes in some_sizes(sides, 8)[:8]:
                    self.right(field, sizes)

    def test_by_hand(self):
        self.assertEqual(windows(((4,), (3, 1, 1, 3)), (2,)),
                         [((0,), 1, (1,), 3, (0,)), ((1,), 1, (1,), 1, (1,)), ((2,), 1, (2,), 3, (3,))])
        self.assertEqual(windows(((4,), (3, 1, 1, 3)), (4,)), [((0,), 1, (1,), 3, (0,))])
        field = ((2, 3), (4, -1, 7, 0, 7, -1))
        self.assertEqual(windows(field, (2, 2)), [((0, 0), -1, (0, 1), 7, (1, 1)), ((0, 1), -1, (0, 1), 7, (0, 2))])
        self.assertEqual(windows(field, (1, 3)), [((0, 0), -1, (0, 1), 7, (0, 2)), ((1, 0), -1, (1, 2), 7, (1, 1))])
        self.assertEqual(windows(((1, 1, 1), (-5,)), (1, 1, 1)), [((0, 0, 0), -5, (0, 0, 0), -5, (0, 0, 0))])

    def refused(self, field, thing):
        kept = copy.deepcopy(thing)
        with self.assertRaises(NoBox, msg=f"{field} {thing!r}") as caught:
            windows(field, thing)
        self.assertIsInstance(caught.exception, BoxError)
        self.assertEqual(thing, kept)

    def test_one_size_that_is_none(self):
        for field in one_field_each(SMALL_SIDES + [(120,), (10, 12), (4, 5, 6)]):
            for right in [field[0], tuple(1 for side in field[0])]:
                self.assertTrue(windows(field, right))
                for way, side in enumerate(field[0]):
                    for wrong in [0, -1, -side, side + 1, side * 2 + 1, THIRTY, -THIRTY] + wrong_numbers():
                        self.refused(field, right[:way] + (wrong,) + right[way + 1:])

    def test_what_are_no_sizes(self):
        for field in one_field_each(SMALL_SIDES + [(120,), (10, 12), (4, 5, 6)]):
            for right in [field[0], tuple(1 for side in field[0])]:
                for wrong in [list(right), right + (1,), right[1:], right[:-1], (), right * 2, right[0], (right,),
                              [right], dict(enumerate(right)), str(right), None, right + (None,), list(right) + [1]]:
                    self.refused(field, wrong)

    def test_things_of_every_kind(self):
        for field in one_field_each([(1,), (2,), (1, 1), (2, 3), (1, 1, 1), (2, 1, 2)]):
            right = [repr(sizes) for sizes in all_sizes(field[0])]
            for thing in odd_things() + [deep(lambda inner: (inner,), 1), deep(lambda inner: [inner, 1])]:
                if repr(thing) not in right:
                    self.refused(field, thing)

    def test_told_lists_are_the_askers_own(self):
        field = ((2, 2), (1, 2, 3, 4))
        told = windows(field, (1, 2))
        kept = list(told)
        told.clear()
        self.assertEqual(windows(field, (1, 2)), kept)

    def test_somewhat_beyond_the_bounds(self):
        self.right(((11, 11), tuple(k * k % 19 for k in range(121))), (3, 4))
        self.right(((3,), (FORTY * 10, -FORTY * 10, 0)), (2,))


def plain_line(numbers, size):
    """Each place asked by itself, and each place ahead of it in the window."""
    told = []
    for t in range(len(numbers)):
        told.append(tuple(j for j in range(max(0, t - size + 1), t + 1)
                          if not any(numbers[i] < numbers[j] for i in range(j + 1, t + 1))))
    return told


def sizes_of_row(length):
    return range(1, length + 1) if length <= 9 else sorted({1, 2, 3, 7, length // 2, length - 1, length})


class Line(unittest.TestCase):
    def right(self, row, size):
        kept = list(row)
        told = line(row, size)
        self.assertIs(type(told), list)
        self.assertEqual({type(places) for places in told}, {tuple})
        self.assertEqual(told, plain_line(row, size), (row, size))
        self.assertEqual(row, kept)
        for t, places in enumerate(told):
            start = max(0, t - size + 1)
            window = row[start:t + 1]
            self.assertEqual(places[0], start + window.index(min(window)))
            self.assertEqual(places[-1], t)

    def test_small_rows(self):
        for row in rows_for(SMALL_ROWS):
            for size in sizes_of_row(len(row)):
                self.right(row, size)

    def test_all_rows_of_few_numbers(self):
        for length in (1, 2, 3, 4, 5):
            for row in itertools.product((0, 1, 2), repeat=length):
                for size in range(1, length + 1):
                    self.right(list(row), size)

    def test_great_rows(self):
        for row in one_row_each(GREAT_ROWS) + rows_for([120]):
            for size in sizes_of_row(len(row)):
                self.right(row, size)

    def test_rising_falling_and_alike(self):
        for row in [list(range(120)), list(range(120, 0, -1)), [THIRTY] * 120, [-THIRTY] * 60 + [THIRTY] * 60,
                    [THIRTY, -THIRTY] * 60, [k % 7 for k in range(120)]]:
            for size in (1, 2, 10, 60, 119, 120):
                self.right(row, size)

    def test_by_hand(self):
        self.assertEqual(line([3, 1, 2, 2, 0], 3), [(0,), (1,), (1, 2), (1, 2, 3), (4,)])
        self.assertEqual(line([3, 1, 2, 2, 0], 2), [(0,), (1,), (1, 2), (2, 3), (4,)])
        self.assertEqual(line([3, 1, 2, 2, 0], 1), [(0,), (1,), (2,), (3,), (4,)])
        self.assertEqual(line([1, 1, 1], 3), [(0,), (0, 1), (0, 1, 2)])
        self.assertEqual(line([5], 1), [(0,)])

    def refused(self, row, thing):
        kept, shown = list(row), copy.deepcopy(thing)
        with self.assertRaises(NoBox, msg=f"{row} {thing!r}") as caught:
            line(row, thing)
        self.assertIsInstance(caught.exception, BoxError)
        self.assertEqual((row, thing), (kept, shown))

    def test_what_is_no_size(self):
        for row in one_row_each(SMALL_ROWS + GREAT_ROWS):
            many = len(row)
            wrong = [0, -1, -many, many + 1, many * 2, THIRTY, -THIRTY, (many,), [many], str(many), {many: many}]
            for thing in wrong + wrong_numbers():
                self.refused(row, thing)

    def test_things_of_every_kind(self):
        for row in ([4], [4, 1], [4, 1, 4]):
            for thing in odd_things():
                if not (type(thing) is int and 1 <= thing <= len(row)):
                    self.refused(row, thing)

    def test_lists_handed_in_and_told(self):
        row = [3, 1, 2]
        told = line(row, 2)
        row[0] = 0
        row.append(5)
        self.assertEqual(told, [(0,), (1,), (1, 2)])
        told.clear()
        self.assertEqual(line([3, 1, 2], 2), [(0,), (1,), (1, 2)])

    def test_rows_somewhat_beyond_the_bound(self):
        row = [k * k % 37 for k in range(130)]
        self.right(row, 130)
        self.right(row, 31)
        self.right([FORTY, -FORTY * 10, FORTY], 2)
