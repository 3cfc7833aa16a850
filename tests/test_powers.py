"""The powers of a field: points 12 and 13."""

import copy
import itertools
import unittest

from boxsums.powers import by_powers, holds_powers, met_by, powers_of
from tests.samples import (GREAT_SIDES, SMALL_SIDES, THIRTY, boxes_for, fields_for, lies_in, odd_things,
                           one_field_each, plain_boxes, plain_cells, plain_places, some_indexes, spoilt_tables,
                           with_cell)


def piece_box(place, powers):
    return (place, tuple(number + 2 ** power - 1 for number, power in zip(place, powers)))


def plain_pieces(sides):
    """All places and powers by the words of the point, each tried."""
    return sorted((place, powers) for place in plain_places(sides)
                  for powers in itertools.product(range(8), repeat=len(sides))
                  if all(number + 2 ** power <= side for number, power, side in zip(place, powers, sides)))


def plain_powers(field):
    table = []
    for place, powers in plain_pieces(field[0]):
        cells = plain_cells(field, piece_box(place, powers))
        table.append((place, powers, min(cells), max(cells)))
    return table


def put_anew_around(table, index, least, greatest):
    """The table with another entry at an index and all pieces over it put together anew from that."""
    told = {entry[:2]: entry[2:] for entry in table}
    told[table[index][:2]] = (least, greatest)
    for place, powers in sorted(told, key=lambda piece: (sum(piece[1]), piece)):
        if (place, powers) == table[index][:2] or max(powers) == 0:
            continue
        way = [power > 0 for power in powers].index(True)
        lesser = powers[:way] + (powers[way] - 1,) + powers[way + 1:]
        further = place[:way] + (place[way] + 2 ** lesser[way],) + place[way + 1:]
        parts = [told[place, lesser], told[further, lesser]]
        told[place, powers] = (min(part[0] for part in parts), max(part[1] for part in parts))
    return [entry[:2] + told[entry[:2]] for entry in table]


class Table(unittest.TestCase):
    def test_powers_of_against_the_cells(self):
        for field in fields_for(SMALL_SIDES) + one_field_each(GREAT_SIDES):
            table = powers_of(field)
            self.assertIs(type(table), list)
            self.assertEqual(table, plain_powers(field), field)

    def test_powers_of_by_hand(self):
        self.assertEqual(powers_of(((1,), (4,))), [((0,), (0,), 4, 4)])
        self.assertEqual(powers_of(((3,), (5, -2, 4))), [
            ((0,), (0,), 5, 5), ((0,), (1,), -2, 5), ((1,), (0,), -2, -2), ((1,), (1,), -2, 4), ((2,), (0,), 4, 4)])
        self.assertEqual(powers_of(((2, 2), (1, 2, 3, 4)))[:4], [
            ((0, 0), (0, 0), 1, 1), ((0, 0), (0, 1), 1, 2), ((0, 0), (1, 0), 1, 3), ((0, 0), (1, 1), 1, 4)])
        self.assertEqual(powers_of(((4,), (3, 1, 2, 0)))[2], ((0,), (2,), 0, 3))

    def test_told_table_is_the_askers_own(self):
        field = ((2,), (1, 2))
        told = powers_of(field)
        kept = list(told)
        told[0] = None
        told.pop()
        self.assertEqual(powers_of(field), kept)
        self.assertIs(holds_powers(field, kept), True)


class Look(unittest.TestCase):
    def test_the_table_holds(self):
        for field in fields_for(SMALL_SIDES) + one_field_each(GREAT_SIDES):
            table = plain_powers(field)
            kept = list(table)
            self.assertIs(holds_powers(field, table), True, field)
            self.assertEqual(table, kept)

    def test_spoilt_tables_do_not_hold(self):
        for field in one_field_each(SMALL_SIDES + [(1, 2, 2), (2, 5), (11,)]):
            for thing in spoilt_tables(plain_powers(field)):
                self.assertIs(holds_powers(field, thing), False, (field, thing))

    def test_spoilt_great_tables_do_not_hold(self):
        for field in one_field_each([(120,), (10, 12), (4, 5, 6), (1, 120)]):
            for thing in spoilt_tables(plain_powers(field), 2):
                self.assertIs(holds_powers(field, thing), False, field)

    def test_every_number_one_more_or_less(self):
        for field in one_field_each(SMALL_SIDES + [(16,), (3, 5), (2, 3, 3)]):
            table = plain_powers(field)
            for index, (place, powers, least, greatest) in enumerate(table):
                for low, high in [(least + 1, greatest), (least - 1, greatest), (least, greatest + 1),
                                  (least, greatest - 1), (least + 1, greatest + 1), (least - 1, greatest - 1)]:
                    spoilt = table[:index] + [(place, powers, low, high)] + table[index + 1:]
                    self.assertIs(holds_powers(field, spoilt), False, (field, place, powers))
                    anew = put_anew_around(table, index, low, high)
                    self.assertIs(holds_powers(field, anew), False, (field, place, powers))

    def test_numbers_put_anew_around_in_great_tables(self):
        for field in one_field_each([(120,), (10, 12), (4, 5, 6)]):
            table = plain_powers(field)
            for index in some_indexes(len(table), 12):
                anew = put_anew_around(table, index, table[index][2] - 1, table[index][3])
                self.assertIs(holds_powers(field, anew), False, (field, index))

    def test_the_table_of_another_field_does_not_hold(self):
        for field in one_field_each(SMALL_SIDES + GREAT_SIDES):
            places = plain_places(field[0])
            for index in some_indexes(len(places), 2):
                other = with_cell(field, places[index], field[1][index] - 1)
                self.assertIs(holds_powers(field, plain_powers(other)), False, (field, index))
        self.assertIs(holds_powers(((2, 3), (0,) * 6), plain_powers(((3, 2), (0,) * 6))), False)

    def test_things_of_every_kind(self):
        for field in one_field_each([(1,), (2,), (5,), (1, 1), (2, 2), (1, 1, 1), (1, 2, 1)]):
            many = len(plain_pieces(field[0]))
            for thing in odd_things():
                kept = copy.deepcopy(thing)
                self.assertIs(holds_powers(field, thing), False, (field, thing))
                self.assertEqual(thing, kept)
                self.assertIs(holds_powers(field, [thing] * many), False, (field, thing))
                self.assertIs(holds_powers(field, [(thing, thing, 0, 1)] * many), False, (field, thing))


class Met(unittest.TestCase):
    def right(self, sides, box):
        told = met_by(sides, box)
        self.assertIs(type(told), list)
        self.assertEqual(told, sorted(set(told)), (sides, box))
        lengths = [high - low + 1 for low, high in zip(*box)]
        powers = tuple(max(k for k in range(8) if 2 ** k <= length) for length in lengths)
        starts = [{low, high - 2 ** power + 1} for low, high, power in zip(box[0], box[1], powers)]
        self.assertEqual(told, sorted((place, powers) for place in itertools.product(*starts)), (sides, box))
        for place in plain_places(sides):
            met = any(lies_in(place, piece_box(*piece)) for piece in told)
            self.assertIs(met, lies_in(place, box), (sides, box, place))

    def test_all_boxes_of_small_sides(self):
        for sides in SMALL_SIDES + [(17,)]:
            for box in plain_boxes(sides):
                self.right(sides, box)

    def test_boxes_of_great_sides(self):
        for sides in GREAT_SIDES:
            for box in boxes_for(sides, 20):
                self.right(sides, box)

    def test_by_hand(self):
        self.assertEqual(met_by((5,), ((1,), (1,))), [((1,), (0,))])
        self.assertEqual(met_by((5,), ((0,), (3,))), [((0,), (2,))])
        self.assertEqual(met_by((5,), ((1,), (3,))), [((1,), (1,)), ((2,), (1,))])
        self.assertEqual(met_by((3, 3), ((0, 0), (2, 1))), [((0, 0), (1, 1)), ((1, 0), (1, 1))])

    def test_told_pieces_are_the_askers_own(self):
        told = met_by((5,), ((1,), (3,)))
        told.clear()
        self.assertEqual(met_by((5,), ((1,), (3,))), [((1,), (1,)), ((2,), (1,))])


class Answers(unittest.TestCase):
    def test_by_powers_against_the_cells(self):
        for field in fields_for(SMALL_SIDES) + one_field_each(GREAT_SIDES):
            table = plain_powers(field)
            kept = list(table)
            for box in boxes_for(field[0]):
                cells = plain_cells(field, box)
                told = by_powers(field[0], table, box)
                self.assertIs(type(told), tuple)
                self.assertEqual(told, (min(cells), max(cells)), (field, box))
            self.assertEqual(table, kept)

    def test_an_answer_is_made_of_just_the_told_entries(self):
        for field in one_field_each(SMALL_SIDES):
            table = plain_powers(field)
            for box in plain_boxes(field[0]):
                used = met_by(field[0], box)
                odd = [entry if entry[:2] in used else entry[:2] + (-10 * THIRTY, 10 * THIRTY) for entry in table]
                cells = plain_cells(field, box)
                self.assertEqual(by_powers(field[0], odd, box), (min(cells), max(cells)), (field, box))
