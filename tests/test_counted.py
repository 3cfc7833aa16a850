"""The boxes of a told sum, and how many there are: point 23."""

import collections
import unittest

from boxsums.counted import all_of, how_many_of
from tests.samples import (GREAT_SIDES, SMALL_SIDES, THIRTY, cell_lists, fields_for, one_field_each, plain_boxes,
                           plain_cells, plain_places)

FORTY = 10 ** 40 - 1


def boxes_by_sum(field):
    """For each sum its boxes, each box gone through cell by cell."""
    found = collections.defaultdict(list)
    for box in plain_boxes(field[0]):
        found[sum(plain_cells(field, box))].append(box)
    return found


def sums_of_alike(sides, cell):
    """For each sum the boxes where all cells are alike: the cell so often as the box has places."""
    found = collections.defaultdict(list)
    for low, high in plain_boxes(sides):
        many = 1
        for a, b in zip(low, high):
            many *= b - a + 1
        found[cell * many].append((low, high))
    return found


class Counted(unittest.TestCase):
    def right(self, field, number, boxes):
        told = all_of(field, number)
        self.assertIs(type(told), list)
        self.assertEqual(told, boxes, (field, number))
        for box in told:
            self.assertEqual([type(part) for part in (box,) + box], [tuple] * 3)
        many = how_many_of(field, number)
        self.assertIs(type(many), int)
        self.assertEqual(many, len(boxes), (field, number))

    def all_right(self, field, found):
        counted = 0
        for number, boxes in found.items():
            self.right(field, number, sorted(boxes))
            counted += how_many_of(field, number)
        self.assertEqual(counted, len(plain_boxes(field[0])))
        for number in (0, 1, -1, THIRTY, -THIRTY, FORTY, -FORTY, max(found) + 1, min(found) - 1):
            self.right(field, number, sorted(found.get(number, [])))

    def test_small_fields(self):
        for field in fields_for(SMALL_SIDES):
            self.all_right(field, boxes_by_sum(field))

    def test_great_fields_of_alike_cells(self):
        for sides, cell in [((120,), 7), ((10, 12), -3), ((4, 5, 6), THIRTY), ((1, 120), -THIRTY), ((2, 3, 20), 1)]:
            many = len(plain_places(sides))
            self.all_right((sides, (cell,) * many), sums_of_alike(sides, cell))

    def test_great_fields_of_noughts_alone(self):
        for sides in GREAT_SIDES:
            field = (sides, (0,) * len(plain_places(sides)))
            self.right(field, 0, plain_boxes(sides))
            self.right(field, 1, [])
        self.assertEqual(how_many_of(((120,), (0,) * 120), 0), 7260)

    def test_some_sums_of_great_fields(self):
        for field in one_field_each([(10, 12), (4, 5, 6), (40,), (3, 20), (1, 1, 50)]):
            found = boxes_by_sum(field)
            numbers = sorted(found)
            for number in [0, numbers[0], numbers[-1], numbers[len(numbers) // 2], numbers[-1] + 1, numbers[0] - 1]:
                self.right(field, number, found.get(number, []))

    def test_all_counts_of_great_fields(self):
        for sides in [(120,), (10, 12), (2, 3, 20)]:
            field = (sides, tuple(cell_lists(sides)[0]))
            found = boxes_by_sum(field)
            self.assertEqual({number: how_many_of(field, number) for number in found},
                             {number: len(boxes) for number, boxes in found.items()})

    def test_rows_of_ups_and_downs(self):
        # Two more cells make the same sum again: half of all boxes have nought.
        field = ((120,), (THIRTY, -THIRTY) * 60)
        found = collections.defaultdict(list)
        for low, high in plain_boxes((120,)):
            many = high[0] - low[0] + 1
            found[0 if many % 2 == 0 else field[1][low[0]]].append((low, high))
        self.assertEqual(sorted(found), [-THIRTY, 0, THIRTY])
        self.all_right(field, found)

    def test_by_hand(self):
        field = ((2, 2), (1, -1, 0, 2))
        self.assertEqual(all_of(field, 1), [((0, 0), (0, 0)), ((0, 0), (1, 0)), ((0, 1), (1, 1))])
        self.assertEqual(all_of(field, 2), [((0, 0), (1, 1)), ((1, 0), (1, 1)), ((1, 1), (1, 1))])
        self.assertEqual(all_of(field, 0), [((0, 0), (0, 1)), ((1, 0), (1, 0))])
        self.assertEqual(all_of(field, 3), [])
        self.assertEqual([how_many_of(field, number) for number in (-2, -1, 0, 1, 2, 3)], [0, 1, 2, 3, 3, 0])
        self.assertEqual(all_of(((1,), (-4,)), -4), [((0,), (0,))])
        self.assertEqual((all_of(((1,), (-4,)), 4), how_many_of(((1,), (-4,)), 0)), ([], 0))

    def test_told_lists_are_the_askers_own(self):
        field = ((3,), (1, -1, 1))
        for number in (0, 1, 5):
            told = all_of(field, number)
            kept = list(told)
            told.append(None)
            told.reverse()
            self.assertEqual(all_of(field, number), kept)
            self.assertEqual(how_many_of(field, number), len(kept))

    def test_somewhat_beyond_the_bound_of_cells(self):
        field = ((11, 11), (2,) * 121)
        self.assertEqual(how_many_of(field, 242), 1)
        self.assertEqual(all_of(field, 242), [((0, 0), (10, 10))])
        self.assertEqual(how_many_of(field, 2), 121)
