"""The cells, the sum, the least and the greatest of a box: points 5 and 6."""

import copy
import unittest

from boxsums.errors import NoBox
from boxsums.fields import field_of
from boxsums.plain import cells_in, greatest_in, least_in, sum_in
from tests.samples import (GREAT_SIDES, SMALL_SIDES, boxes_for, fields_for, odd_things, one_field_each, plain_cells,
                           plain_places, things_that_are_no_box)

FOUR = [cells_in, sum_in, least_in, greatest_in]


class Answers(unittest.TestCase):
    def same(self, field, box):
        cells = plain_cells(field, box)
        told = cells_in(field, box)
        self.assertIs(type(told), list)
        self.assertEqual(told, cells, (field, box))
        self.assertEqual(sum_in(field, box), sum(cells))
        self.assertEqual(least_in(field, box), sorted(cells)[0])
        self.assertEqual(greatest_in(field, box), sorted(cells)[-1])

    def test_all_boxes_of_small_fields(self):
        for field in fields_for(SMALL_SIDES):
            for box in boxes_for(field[0]):
                self.same(field, box)

    def test_boxes_of_great_fields(self):
        for field in one_field_each(GREAT_SIDES):
            for box in boxes_for(field[0]):
                self.same(field, box)

    def test_single_cells_and_the_whole(self):
        for field in fields_for(GREAT_SIDES[:4] + [(4, 5, 6)]):
            sides, cells = field
            places = plain_places(sides)
            for place, cell in zip(places, cells):
                self.assertEqual(cells_in(field, (place, place)), [cell])
                self.assertEqual(sum_in(field, (place, place)), cell)
                self.assertEqual(least_in(field, (place, place)), cell)
                self.assertEqual(greatest_in(field, (place, place)), cell)
            whole = (places[0], places[-1])
            self.assertEqual(cells_in(field, whole), list(cells))
            self.assertEqual(sum_in(field, whole), sum(cells))
            self.assertEqual(least_in(field, whole), min(cells))
            self.assertEqual(greatest_in(field, whole), max(cells))

    def test_by_hand(self):
        field = field_of([2, 3, 2], [0, 1, 10, 11, 20, 21, 100, 101, 110, 111, 120, 121])
        box = ((0, 1, 1), (1, 2, 1))
        self.assertEqual(cells_in(field, box), [11, 21, 111, 121])
        self.assertEqual(sum_in(field, box), 264)
        self.assertEqual(least_in(field, box), 11)
        self.assertEqual(greatest_in(field, box), 121)

    def test_told_cells_are_the_askers_own(self):
        field = field_of([3], [4, 5, 6])
        box = ((0,), (2,))
        told = cells_in(field, box)
        told[0] = 100
        told.clear()
        self.assertEqual(cells_in(field, box), [4, 5, 6])
        self.assertEqual(sum_in(field, box), 15)
        self.assertEqual(field, ((3,), (4, 5, 6)))
        self.assertEqual(told, [])


class NoBoxes(unittest.TestCase):
    def refused(self, field, thing):
        kept = copy.deepcopy(thing)
        for answer in FOUR:
            with self.assertRaises(NoBox, msg=(answer, field, thing)):
                answer(field, thing)
        self.assertEqual(thing, kept)

    def test_what_is_no_box_is_refused_by_each_of_the_four(self):
        for field in one_field_each(SMALL_SIDES + [(120,), (10, 12), (4, 5, 6)]):
            for thing in things_that_are_no_box(field[0]):
                self.refused(field, thing)

    def test_things_of_every_kind_are_refused(self):
        for field in one_field_each([(1,), (5,), (1, 1), (2, 3), (1, 1, 1), (2, 2, 2)]):
            for thing in odd_things():
                self.refused(field, thing)
