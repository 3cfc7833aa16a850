"""Fields, places and boxes: points 4 and 5."""

import copy
import unittest

from boxsums.errors import NoField
from boxsums.fields import (all_boxes, all_places, cell_at, field_of, is_box, is_field, is_place)
from tests.samples import (GREAT_SIDES, SMALL_SIDES, THIRTY, cell_lists, many_cells, odd_things, plain_boxes,
                           plain_places, things_that_are_no_box, wrong_numbers)

ALL_SIDES = SMALL_SIDES + GREAT_SIDES


class FieldsMade(unittest.TestCase):
    def test_lists_and_tuples_make_the_tuple_of_both_tuples(self):
        for sides in ALL_SIDES:
            for cells in cell_lists(sides):
                awaited = (sides, tuple(cells))
                for given_sides in (sides, list(sides)):
                    for given_cells in (tuple(cells), list(cells)):
                        field = field_of(given_sides, given_cells)
                        self.assertEqual(field, awaited)
                        self.assertIs(type(field), tuple)
                        self.assertIs(type(field[0]), tuple)
                        self.assertIs(type(field[1]), tuple)
                        self.assertIs(is_field(field), True)

    def test_least_and_greatest_fields(self):
        self.assertEqual(field_of([1], [5]), ((1,), (5,)))
        self.assertEqual(field_of((1, 1, 1), (-THIRTY,)), ((1, 1, 1), (-THIRTY,)))
        for sides in ((120,), (10, 12), (4, 5, 6)):
            self.assertEqual(field_of(sides, [THIRTY] * 120), (sides, (THIRTY,) * 120))

    def test_cells_stand_in_the_order_of_places(self):
        for sides in ALL_SIDES:
            for cells in cell_lists(sides):
                field = field_of(sides, cells)
                told = [cell_at(field, place) for place in plain_places(sides)]
                self.assertEqual(told, cells)

    def test_cell_at_of_a_block_by_hand(self):
        field = field_of([2, 3, 2], [0, 1, 10, 11, 20, 21, 100, 101, 110, 111, 120, 121])
        self.assertEqual(cell_at(field, (0, 0, 0)), 0)
        self.assertEqual(cell_at(field, (0, 2, 1)), 21)
        self.assertEqual(cell_at(field, (1, 0, 1)), 101)
        self.assertEqual(cell_at(field, (1, 2, 0)), 120)

    def test_lists_handed_in_stay_and_are_copied(self):
        sides = [2, 3]
        cells = [1, 2, 3, 4, 5, 6]
        field = field_of(sides, cells)
        self.assertEqual((sides, cells), ([2, 3], [1, 2, 3, 4, 5, 6]))
        sides[0] = 7
        sides.append(9)
        cells[0] = 100
        cells.clear()
        self.assertEqual(field, ((2, 3), (1, 2, 3, 4, 5, 6)))
        self.assertEqual(cell_at(field, (0, 0)), 1)


def wrong_pairs():
    """Sides and cells, each a list, that make no field."""
    pairs = [
        ([], []), ([], [0]), ([1, 1, 1, 1], [0]), ([2, 1, 1, 1], [0, 0]),
        ([0], []), ([0], [0]), ([-1], []), ([-1], [0]), ([2, 0], []), ([0, 0, 0], []),
        ([-2, -3], [0] * 6), ([-2, 3], []), ([1, -1, -1], [0]),
        ([1], []), ([1], [0, 0]), ([2, 3], [0] * 5), ([2, 3], [0] * 7), ([2, 3, 4], [0] * 23),
        ([2, 3, 4], [0] * 25), ([120], [0] * 119), ([120], [0] * 121),
        ([121], [0] * 121), ([11, 11], [0] * 121), ([2, 61], [0] * 122), ([5, 5, 5], [0] * 125),
        ([2000], [0] * 2000), ([121], [0] * 120),
        ([THIRTY], [0]), ([THIRTY, THIRTY, THIRTY], [0] * 120), ([1, THIRTY], []), ([-THIRTY, -THIRTY], [0]),
    ]
    for thing in wrong_numbers():
        pairs.extend([([thing], [0]), ([1, thing], [0]), ([thing, 1, 1], [0])])
        pairs.extend([([1], [thing]), ([2, 2], [0, 0, thing, 0]), ([3], [thing, 1, 2]), ([1, 1, 2], [5, thing])])
    return pairs


class NoFields(unittest.TestCase):
    def refused(self, sides, cells):
        kept = copy.deepcopy((sides, cells))
        with self.assertRaises(NoField, msg=(sides, cells)):
            field_of(sides, cells)
        self.assertEqual((sides, cells), kept)

    def test_wrong_sides_and_cells_are_refused(self):
        for sides, cells in wrong_pairs():
            self.refused(sides, cells)
            self.refused(tuple(sides), tuple(cells))
            self.assertIs(is_field((tuple(sides), tuple(cells))), False, (sides, cells))

    def test_what_is_no_list_and_no_tuple_is_refused(self):
        things = [None, 0, 1, 5, "", "1", "12", True, False, {}, {1: 0}, {0: 0}, {1: 1, 0: 0}]
        for thing in things:
            self.refused(thing, [0])
            self.refused([1], thing)
            self.refused((1,), thing)
            self.refused(thing, thing)
            self.assertIs(is_field((thing, (0,))), False, thing)
            self.assertIs(is_field(((1,), thing)), False, thing)

    def test_things_of_every_kind_are_refused(self):
        for thing in odd_things():
            self.refused(thing, [0, 1, 2, 3])
            self.refused([5], thing)
            self.refused([thing], [0] * 7)
            if isinstance(thing, int) and not isinstance(thing, bool):
                self.assertEqual(field_of([1], [thing]), ((1,), (thing,)))
            else:
                self.refused([1], [thing])

    def test_is_field_of_things_of_every_kind(self):
        for thing in odd_things():
            self.assertIs(is_field(thing), False, thing)
            self.assertIs(is_field((thing, (0, 1, 2, 3))), False, thing)
            self.assertIs(is_field(((5,), thing)), False, thing)

    def test_is_field_of_lists_and_of_too_few_or_many_things(self):
        good = ((2,), (3, 4))
        self.assertIs(is_field(good), True)
        for thing in [list(good), ([2], (3, 4)), ((2,), [3, 4]), [[2], [3, 4]], (good,), [good],
                      ((2,),), ((2,), (3, 4), ()), ((2,), (3, 4), (3, 4)), good + good,
                      {(2,): (3, 4)}, ((3, 4), (2,)), "((2,), (3, 4))"]:
            self.assertIs(is_field(thing), False, thing)


class Places(unittest.TestCase):
    def test_places_at_and_beyond_the_edges(self):
        for sides in ALL_SIDES:
            first = tuple(0 for side in sides)
            last = tuple(side - 1 for side in sides)
            self.assertIs(is_place(sides, first), True)
            self.assertIs(is_place(sides, last), True)
            for way, side in enumerate(sides):
                for number in [side, side + 1, -1, -side, THIRTY, -THIRTY] + wrong_numbers():
                    thing = last[:way] + (number,) + last[way + 1:]
                    self.assertIs(is_place(sides, thing), False, (sides, thing))
                thing = last[:way] + (0,) + last[way + 1:]
                self.assertIs(is_place(sides, thing), True, (sides, thing))

    def test_places_of_other_length_or_kind(self):
        for sides in ALL_SIDES:
            first = tuple(0 for side in sides)
            for thing in [first + (0,), first[1:], (), list(first), dict.fromkeys(first, 0), (first,), 0, "0", None,
                          {}, True, [first], "".join("0" for side in sides)]:
                self.assertIs(is_place(sides, thing), False, (sides, thing))

    def test_is_place_of_things_of_every_kind(self):
        for thing in odd_things():
            wholes = type(thing) is tuple and all(type(part) is int for part in thing)
            self.assertIs(is_place((5,), thing), wholes and thing in [(0,), (1,)], thing)
            self.assertIs(is_place((1, 3), thing), wholes and thing == (0, 0), thing)
            self.assertIs(is_place((1, 1, 1), thing), wholes and thing == (0, 0, 0), thing)

    def test_all_places_each_once_sorted(self):
        for sides in ALL_SIDES:
            places = all_places(sides)
            self.assertIs(type(places), list)
            self.assertEqual(places, plain_places(sides))
            self.assertEqual(places, sorted(set(places)))
            self.assertEqual(len(places), many_cells(sides))
            for place in places:
                self.assertIs(is_place(sides, place), True)

    def test_all_places_by_hand(self):
        self.assertEqual(all_places((3,)), [(0,), (1,), (2,)])
        self.assertEqual(all_places((2, 2)), [(0, 0), (0, 1), (1, 0), (1, 1)])
        self.assertEqual(all_places((1, 2, 1)), [(0, 0, 0), (0, 1, 0)])

    def test_told_places_are_the_askers_own(self):
        told = all_places((2, 2))
        told.reverse()
        told[0] = None
        told.append("more")
        self.assertEqual(all_places((2, 2)), [(0, 0), (0, 1), (1, 0), (1, 1)])
        later = all_places((2, 2))
        self.assertEqual(told[0], None)
        self.assertIsNot(told, later)


class Boxes(unittest.TestCase):
    def test_boxes_at_the_edges(self):
        for sides in ALL_SIDES:
            first = tuple(0 for side in sides)
            last = tuple(side - 1 for side in sides)
            for box in [(first, first), (last, last), (first, last)]:
                self.assertIs(is_box(sides, box), True, (sides, box))
            if first != last:
                self.assertIs(is_box(sides, (last, first)), False)

    def test_a_box_turned_about_in_one_way_alone(self):
        self.assertIs(is_box((3, 3), ((0, 1), (2, 0))), False)
        self.assertIs(is_box((3, 3), ((1, 0), (0, 2))), False)
        self.assertIs(is_box((3, 3, 3), ((0, 0, 1), (2, 2, 0))), False)
        self.assertIs(is_box((3, 3, 3), ((0, 1, 0), (2, 1, 2))), True)

    def test_what_is_no_box(self):
        for sides in ALL_SIDES:
            for thing in things_that_are_no_box(sides):
                self.assertIs(is_box(sides, thing), False, (sides, thing))

    def test_is_box_of_things_of_every_kind(self):
        for sides in SMALL_SIDES:
            for thing in odd_things():
                self.assertIs(is_box(sides, thing), False, (sides, thing))
                first = tuple(0 for side in sides)
                if is_place(sides, thing):
                    continue
                self.assertIs(is_box(sides, (first, thing)), False, (sides, thing))
                self.assertIs(is_box(sides, (thing, first)), False, (sides, thing))

    def test_all_boxes_each_once_sorted(self):
        for sides in ALL_SIDES:
            boxes = all_boxes(sides)
            self.assertIs(type(boxes), list)
            awaited = 1
            for side in sides:
                awaited *= side * (side + 1) // 2
            self.assertEqual(len(boxes), awaited)
            self.assertEqual(boxes, sorted(set(boxes)))
            self.assertEqual(boxes, plain_boxes(sides))
            for box in boxes:
                self.assertIs(is_box(sides, box), True)

    def test_all_boxes_by_hand(self):
        self.assertEqual(all_boxes((1,)), [((0,), (0,))])
        self.assertEqual(all_boxes((2,)), [((0,), (0,)), ((0,), (1,)), ((1,), (1,))])
        self.assertEqual(all_boxes((2, 1)), [((0, 0), (0, 0)), ((0, 0), (1, 0)), ((1, 0), (1, 0))])

    def test_told_boxes_are_the_askers_own(self):
        told = all_boxes((2,))
        told[0] = 0
        told.pop()
        self.assertEqual(all_boxes((2,)), [((0,), (0,)), ((0,), (1,)), ((1,), (1,))])
        self.assertEqual(told, [0, ((0,), (1,))])
