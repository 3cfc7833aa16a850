"""Running sums: points 7 and 8."""

import copy
import itertools
import unittest

from boxsums.running import corners, holds_running, running_of, sum_by_running, touched_by
from tests.samples import (GREAT_SIDES, SMALL_SIDES, THIRTY, boxes_for, fields_for, many_cells, odd_things,
                           one_field_each, plain_boxes, plain_cells, plain_places, some_indexes, spoilt_tables,
                           with_cell)


def plain_running(field):
    first = tuple(0 for side in field[0])
    return [sum(plain_cells(field, (first, place))) for place in plain_places(field[0])]


def plain_corners(box):
    """The corners by the words of the point: each choice of the high's or the low's, way by way."""
    found = []
    for chosen in itertools.product([False, True], repeat=len(box[0])):
        place = tuple(low - 1 if of_low else high for low, high, of_low in zip(box[0], box[1], chosen))
        if min(place) >= 0:
            found.append((-1 if sum(chosen) % 2 else 1, place))
    return sorted(found, key=lambda corner: corner[1])


class Table(unittest.TestCase):
    def test_running_of_against_the_cells(self):
        for field in fields_for(SMALL_SIDES) + fields_for(GREAT_SIDES):
            table = running_of(field)
            self.assertIs(type(table), list)
            self.assertEqual(table, plain_running(field), field)

    def test_running_of_by_hand(self):
        self.assertEqual(running_of(((4,), (3, -1, 0, 5))), [3, 2, 2, 7])
        self.assertEqual(running_of(((2, 3), (1, 2, 3, 4, 5, 6))), [1, 3, 6, 5, 12, 21])
        self.assertEqual(running_of(((2, 2, 2), (1,) * 8)), [1, 2, 2, 4, 2, 4, 4, 8])

    def test_told_table_is_the_askers_own(self):
        field = ((3,), (1, 2, 3))
        told = running_of(field)
        told[0] = 50
        told.pop()
        self.assertEqual(running_of(field), [1, 3, 6])
        self.assertEqual(told, [50, 3])
        self.assertIs(holds_running(field, [1, 3, 6]), True)


class Look(unittest.TestCase):
    def test_the_table_holds(self):
        for field in fields_for(SMALL_SIDES) + fields_for(GREAT_SIDES):
            table = plain_running(field)
            kept = list(table)
            self.assertIs(holds_running(field, table), True, field)
            self.assertEqual(table, kept)

    def test_spoilt_tables_do_not_hold(self):
        for field in fields_for(SMALL_SIDES) + one_field_each(GREAT_SIDES):
            for thing in spoilt_tables(plain_running(field)):
                self.assertIs(holds_running(field, thing), False, (field, thing))

    def test_every_entry_one_more_or_less(self):
        for field in one_field_each(SMALL_SIDES + GREAT_SIDES):
            table = plain_running(field)
            for index in range(len(table)):
                for other in (table[index] + 1, table[index] - 1):
                    spoilt = table[:index] + [other] + table[index + 1:]
                    self.assertIs(holds_running(field, spoilt), False, (field, index))

    def test_truths_are_no_numbers(self):
        self.assertIs(holds_running(((2,), (1, 0)), [1, 1]), True)
        self.assertIs(holds_running(((2,), (1, 0)), [True, 1]), False)
        self.assertIs(holds_running(((2,), (1, 0)), [1, True]), False)
        self.assertIs(holds_running(((1,), (0,)), [False]), False)

    def test_things_of_every_kind(self):
        for field in [((1,), (5,)), ((2,), (3, 4)), ((1, 1), (THIRTY,)), ((1, 1, 1), (-7,))]:
            for thing in odd_things():
                kept = copy.deepcopy(thing)
                self.assertIs(holds_running(field, thing), False, (field, thing))
                self.assertEqual(thing, kept)

    def test_the_table_of_another_field_does_not_hold(self):
        for field in one_field_each(SMALL_SIDES + GREAT_SIDES):
            places = plain_places(field[0])
            for index in some_indexes(len(places), 6):
                other = with_cell(field, places[index], field[1][index] + 1)
                self.assertIs(holds_running(field, plain_running(other)), False, (field, index))


class Corners(unittest.TestCase):
    def test_corners_of_all_boxes_of_small_sides(self):
        for sides in SMALL_SIDES:
            for box in plain_boxes(sides):
                told = corners(sides, box)
                self.assertIs(type(told), list)
                self.assertEqual(told, plain_corners(box), (sides, box))

    def test_corners_of_great_sides(self):
        for sides in GREAT_SIDES:
            for box in boxes_for(sides):
                self.assertEqual(corners(sides, box), plain_corners(box), (sides, box))

    def test_corners_by_hand(self):
        self.assertEqual(corners((5,), ((0,), (3,))), [(1, (3,))])
        self.assertEqual(corners((5,), ((2,), (3,))), [(-1, (1,)), (1, (3,))])
        self.assertEqual(corners((3, 3), ((1, 1), (2, 2))), [(1, (0, 0)), (-1, (0, 2)), (-1, (2, 0)), (1, (2, 2))])
        self.assertEqual(corners((3, 3), ((1, 0), (2, 2))), [(-1, (0, 2)), (1, (2, 2))])

    def test_told_corners_are_the_askers_own(self):
        box = ((1, 1), (2, 2))
        told = corners((3, 3), box)
        kept = list(told)
        told.clear()
        self.assertEqual(corners((3, 3), box), kept)

    def test_sum_by_running_against_the_cells(self):
        for field in fields_for(SMALL_SIDES) + fields_for(GREAT_SIDES):
            table = plain_running(field)
            kept = list(table)
            for box in boxes_for(field[0], 20):
                self.assertEqual(sum_by_running(field[0], table, box), sum(plain_cells(field, box)), (field, box))
            self.assertEqual(table, kept)

    def test_sum_by_running_of_any_numbers(self):
        for sides in SMALL_SIDES + GREAT_SIDES:
            table = [(7 * index) % 11 - 10 ** (index % 40) for index in range(many_cells(sides))]
            at = dict(zip(plain_places(sides), table))
            for box in boxes_for(sides):
                awaited = sum(sign * at[place] for sign, place in plain_corners(box))
                self.assertEqual(sum_by_running(sides, table, box), awaited, (sides, box))


class Touched(unittest.TestCase):
    def test_touched_by_against_the_words(self):
        for sides in SMALL_SIDES + GREAT_SIDES:
            places = plain_places(sides)
            for place in places:
                told = touched_by(sides, place)
                self.assertIs(type(told), list)
                awaited = [other for other in places if all(a >= b for a, b in zip(other, place))]
                self.assertEqual(told, awaited, (sides, place))

    def test_a_change_touches_just_these_by_the_difference(self):
        for field in one_field_each(SMALL_SIDES + GREAT_SIDES):
            sides, cells = field
            places = plain_places(sides)
            table = running_of(field)
            for index in some_indexes(len(places), 12):
                for more in (1, -1, 4, THIRTY):
                    behind = running_of(with_cell(field, places[index], cells[index] + more))
                    touched = touched_by(sides, places[index])
                    awaited = [number + more if place in touched else number
                               for place, number in zip(places, table)]
                    self.assertEqual(behind, awaited, (field, index, more))

    def test_told_places_are_the_askers_own(self):
        told = touched_by((2, 2), (0, 1))
        told[0] = None
        self.assertEqual(touched_by((2, 2), (0, 1)), [(0, 1), (1, 1)])
