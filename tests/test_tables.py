"""The halves of a field: points 10 and 11."""

import copy
import itertools
import unittest

from boxsums.halves import height
from boxsums.tables import box_cover, by_halves, changed_halves, halves_of, holds_halves
from tests.samples import (GREAT_SIDES, SMALL_SIDES, THIRTY, boxes_for, fields_for, lies_in, odd_things,
                           one_field_each, plain_boxes, plain_cells, plain_places, some_indexes, spoilt_tables,
                           with_cell)
from tests.test_halves import plain_cover, plain_stretches


def box_of(pairs):
    return (tuple(pair[0] for pair in pairs), tuple(pair[1] for pair in pairs))


def plain_half_boxes(sides):
    return sorted(box_of(pairs) for pairs in itertools.product(*[plain_stretches(0, side - 1) for side in sides]))


def told_of(cells):
    return (sum(cells), min(cells), max(cells))


def plain_halves(field):
    """The halves of a field, each box's cells gone through."""
    return [(box, told_of(plain_cells(field, box))) for box in plain_half_boxes(field[0])]


def size(box):
    product = 1
    for low, high in zip(*box):
        product *= high - low + 1
    return product


def put_anew_around(table, index, values):
    """The table with other values at an index and all boxes around it put together anew from that."""
    told = dict(table)
    changed = table[index][0]
    told[changed] = values
    for box in sorted(told, key=size):
        if box == changed or not (lies_in(changed[0], box) and lies_in(changed[1], box)):
            continue
        ways = [way for way in range(len(box[0])) if (box[0][way], box[1][way]) != (changed[0][way], changed[1][way])]
        way = ways[0]
        middle = (box[0][way] + box[1][way]) // 2
        first = told[box[0], box[1][:way] + (middle,) + box[1][way + 1:]]
        second = told[box[0][:way] + (middle + 1,) + box[0][way + 1:], box[1]]
        told[box] = (first[0] + second[0], min(first[1], second[1]), max(first[2], second[2]))
    return [(box, told[box]) for box, old in table]


class Table(unittest.TestCase):
    def test_halves_of_against_the_cells(self):
        for field in fields_for(SMALL_SIDES) + one_field_each(GREAT_SIDES):
            table = halves_of(field)
            self.assertIs(type(table), list)
            self.assertEqual(table, plain_halves(field), field)
            self.assertEqual([entry[0] for entry in table], sorted({entry[0] for entry in table}))

    def test_halves_of_by_hand(self):
        self.assertEqual(halves_of(((1,), (4,))), [(((0,), (0,)), (4, 4, 4))])
        self.assertEqual(halves_of(((3,), (5, -2, 4))), [
            (((0,), (0,)), (5, 5, 5)), (((0,), (1,)), (3, -2, 5)), (((0,), (2,)), (7, -2, 5)),
            (((1,), (1,)), (-2, -2, -2)), (((2,), (2,)), (4, 4, 4))])
        boxes = [entry[0] for entry in halves_of(((2, 2), (1, 2, 3, 4)))]
        self.assertEqual(boxes, [((0, 0), (0, 0)), ((0, 0), (0, 1)), ((0, 0), (1, 0)), ((0, 0), (1, 1)),
                                 ((0, 1), (0, 1)), ((0, 1), (1, 1)), ((1, 0), (1, 0)), ((1, 0), (1, 1)),
                                 ((1, 1), (1, 1))])

    def test_told_table_is_the_askers_own(self):
        field = ((2,), (1, 2))
        told = halves_of(field)
        kept = list(told)
        told[0] = None
        told.pop()
        self.assertEqual(halves_of(field), kept)
        self.assertIs(holds_halves(field, kept), True)


class Look(unittest.TestCase):
    def test_the_table_holds(self):
        for field in fields_for(SMALL_SIDES) + one_field_each(GREAT_SIDES):
            table = plain_halves(field)
            kept = list(table)
            self.assertIs(holds_halves(field, table), True, field)
            self.assertEqual(table, kept)

    def test_spoilt_tables_do_not_hold(self):
        for field in one_field_each(SMALL_SIDES + [(1, 2, 2), (2, 5), (11,)]):
            for thing in spoilt_tables(plain_halves(field)):
                self.assertIs(holds_halves(field, thing), False, (field, thing))

    def test_spoilt_great_tables_do_not_hold(self):
        for field in one_field_each([(120,), (10, 12), (4, 5, 6), (1, 120)]):
            for thing in spoilt_tables(plain_halves(field), 2):
                self.assertIs(holds_halves(field, thing), False, field)

    def test_every_number_one_more_or_less(self):
        for field in one_field_each(SMALL_SIDES + [(16,), (3, 5), (2, 3, 3)]):
            table = plain_halves(field)
            for index, (box, values) in enumerate(table):
                for part in range(3):
                    for more in (1, -1):
                        other = values[:part] + (values[part] + more,) + values[part + 1:]
                        spoilt = table[:index] + [(box, other)] + table[index + 1:]
                        self.assertIs(holds_halves(field, spoilt), False, (field, box, part))
                        anew = put_anew_around(table, index, other)
                        self.assertIs(holds_halves(field, anew), False, (field, box, part))

    def test_numbers_put_anew_around_in_great_tables(self):
        for field in one_field_each([(120,), (10, 12), (4, 5, 6)]):
            table = plain_halves(field)
            for index in some_indexes(len(table), 12):
                for more in (1, -1):
                    other = tuple(number + more for number in table[index][1])
                    self.assertIs(holds_halves(field, put_anew_around(table, index, other)), False, (field, index))

    def test_cells_that_are_exchanged(self):
        self.assertIs(holds_halves(((2,), (1, 2)), plain_halves(((2,), (2, 1)))), False)
        self.assertIs(holds_halves(((2, 2), (1, 2, 3, 4)), plain_halves(((2, 2), (1, 3, 2, 4)))), False)

    def test_the_table_of_another_field_does_not_hold(self):
        for field in one_field_each(SMALL_SIDES + GREAT_SIDES):
            places = plain_places(field[0])
            for index in some_indexes(len(places), 3):
                other = with_cell(field, places[index], field[1][index] - 1)
                self.assertIs(holds_halves(field, plain_halves(other)), False, (field, index))
        self.assertIs(holds_halves(((2, 3), (0,) * 6), plain_halves(((3, 2), (0,) * 6))), False)

    def test_things_of_every_kind(self):
        for field in one_field_each([(1,), (2,), (5,), (1, 1), (2, 2), (1, 1, 1), (1, 2, 1)]):
            for thing in odd_things():
                kept = copy.deepcopy(thing)
                self.assertIs(holds_halves(field, thing), False, (field, thing))
                self.assertEqual(thing, kept)
                many = len(plain_half_boxes(field[0]))
                self.assertIs(holds_halves(field, [thing] * many), False, (field, thing))
                self.assertIs(holds_halves(field, [(thing, thing)] * many), False, (field, thing))


class BoxCover(unittest.TestCase):
    def right(self, sides, box):
        told = box_cover(sides, box)
        self.assertIs(type(told), list)
        parts = [plain_cover(side, low, high) for side, low, high in zip(sides, box[0], box[1])]
        self.assertEqual(told, sorted(box_of(pairs) for pairs in itertools.product(*parts)), (sides, box))
        for place in plain_places(sides):
            times = sum(lies_in(place, piece) for piece in told)
            self.assertEqual(times, 1 if lies_in(place, box) else 0, (sides, box, place))
        most = 1
        for side in sides:
            most *= max(1, 2 * height(side))
        self.assertLessEqual(len(told), most)
        self.assertLessEqual(set(told), set(plain_half_boxes(sides)))

    def test_all_boxes_of_small_sides(self):
        for sides in SMALL_SIDES:
            for box in plain_boxes(sides):
                self.right(sides, box)

    def test_boxes_of_great_sides(self):
        for sides in GREAT_SIDES:
            for box in boxes_for(sides, 15):
                self.right(sides, box)

    def test_by_hand(self):
        self.assertEqual(box_cover((4, 2), ((1, 0), (3, 0))), [((1, 0), (1, 0)), ((2, 0), (3, 0))])
        self.assertEqual(box_cover((3, 3), ((1, 1), (2, 2))),
                         [((1, 1), (1, 1)), ((1, 2), (1, 2)), ((2, 1), (2, 1)), ((2, 2), (2, 2))])

    def test_told_covers_are_the_askers_own(self):
        told = box_cover((4, 2), ((1, 0), (3, 0)))
        told.clear()
        self.assertEqual(box_cover((4, 2), ((1, 0), (3, 0))), [((1, 0), (1, 0)), ((2, 0), (3, 0))])


class Answers(unittest.TestCase):
    def test_by_halves_against_the_cells(self):
        for field in fields_for(SMALL_SIDES) + one_field_each(GREAT_SIDES):
            table = plain_halves(field)
            kept = list(table)
            for box in boxes_for(field[0]):
                told = by_halves(field[0], table, box)
                self.assertIs(type(told), tuple)
                self.assertEqual(told, told_of(plain_cells(field, box)), (field, box))
            self.assertEqual(table, kept)

    def test_an_answer_is_made_of_just_the_told_entries(self):
        for field in one_field_each(SMALL_SIDES):
            table = plain_halves(field)
            for box in plain_boxes(field[0]):
                used = box_cover(field[0], box)
                odd = [(piece, values) if piece in used else (piece, (THIRTY, -THIRTY, THIRTY))
                       for piece, values in table]
                self.assertEqual(by_halves(field[0], odd, box), told_of(plain_cells(field, box)), (field, box))


class Changes(unittest.TestCase):
    def changed(self, field, table, place, number):
        sides = field[0]
        kept = list(table)
        told = changed_halves(sides, table, place, number)
        self.assertEqual(table, kept)
        self.assertIs(type(told), tuple)
        self.assertEqual([type(part) for part in told], [list, list])
        behind = with_cell(field, place, number)
        self.assertEqual(told[0], plain_halves(behind), (field, place, number))
        self.assertIs(holds_halves(behind, told[0]), True)
        self.assertEqual(told[1], [box for box in plain_half_boxes(sides) if lies_in(place, box)])
        for one, other in zip(table, told[0]):
            if one[0] not in told[1]:
                self.assertEqual(one, other)
        return behind, told[0]

    def test_every_cell_of_small_fields(self):
        for field in one_field_each(SMALL_SIDES):
            table = plain_halves(field)
            for place, cell in zip(plain_places(field[0]), field[1]):
                for number in (cell, cell + 1, cell - 1, 0, THIRTY, -THIRTY):
                    self.changed(field, table, place, number)

    def test_cells_of_great_fields(self):
        for field in one_field_each([(120,), (10, 12), (4, 5, 6), (1, 1, 120), (120, 1)]):
            table = plain_halves(field)
            places = plain_places(field[0])
            for index in some_indexes(len(places), 4):
                self.changed(field, table, places[index], field[1][index] + 3)
                self.changed(field, table, places[index], -THIRTY)

    def test_the_same_cell_again_and_again(self):
        for field in one_field_each([(1,), (7,), (3, 4), (2, 3, 2)]):
            place = plain_places(field[0])[-1]
            table = plain_halves(field)
            for number in (5, 5, -5, THIRTY, 0, 0, -THIRTY, 1):
                field, table = self.changed(field, table, place, number)

    def test_one_cell_behind_the_other(self):
        for field in one_field_each([(9,), (3, 3), (2, 2, 3)]):
            table = plain_halves(field)
            for turn, place in enumerate(plain_places(field[0])):
                field, table = self.changed(field, table, place, 11 - 5 * turn)

    def test_told_lists_are_the_askers_own(self):
        field = ((2,), (1, 2))
        table = halves_of(field)
        told = changed_halves((2,), table, (1,), 7)
        told[0].clear()
        told[1].append(None)
        self.assertEqual(table, plain_halves(field))
        self.assertEqual(changed_halves((2,), table, (1,), 7),
                         (plain_halves(((2,), (1, 7))), [((0,), (1,)), ((1,), (1,))]))
        later = changed_halves((2,), table, (1,), 7)
        table[0] = None
        self.assertEqual(later[0], plain_halves(((2,), (1, 7))))
