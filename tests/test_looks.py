"""The look at entries of a row and the answers by them: point 16."""

import copy
import itertools
import random
import unittest

from boxsums.keeper import Keeper
from boxsums.looks import by_entries, holds_entries
from tests.samples import (GREAT_ROWS, SMALL_ROWS, THIRTY, all_stretches, odd_things, one_row_each, plain_told,
                           rows_for, some_indexes, spoilt_tables, stretches_asked, wrong_numbers)
from tests.waiting import put_anew_around, right_entries

FORTY = 10 ** 40 - 1


def waits_by_chance(seed, most):
    chance = random.Random(seed)
    return lambda low, high: chance.randrange(-most, most + 1)


def entries_for(row):
    """Right entries of a row: a keeper's at first, one's behind deeds, and with waits of all sorts."""
    keeper = Keeper(row)
    for place, cell in enumerate(row):
        keeper.put(place, cell - place)
    for place in range(len(row)):
        keeper.lift(place, len(row) - 1, 1)
    keeper.lift(0, 0, row[0] - keeper.row()[0])
    for place in range(1, len(row)):
        keeper.lift(place, place, row[place] - keeper.row()[place])
    return [Keeper(row).entries(), keeper.entries(),
            right_entries(row, waits_by_chance(f"few {row}", 3)),
            right_entries(row, waits_by_chance(f"many {row}", THIRTY)),
            right_entries(row, lambda low, high: FORTY if low == 0 else -FORTY)]


def one_entries_each(lengths):
    return [(row, entries_for(row)[turn % 5]) for turn, row in enumerate(one_row_each(lengths))]


def with_entry(entries, index, values):
    return entries[:index] + [(entries[index][0], values)] + entries[index + 1:]


class Look(unittest.TestCase):
    def test_right_entries(self):
        for row in rows_for(SMALL_ROWS) + one_row_each(GREAT_ROWS):
            for entries in entries_for(row):
                kept = (list(row), list(entries))
                self.assertIs(holds_entries(row, entries), True, row)
                self.assertEqual((row, entries), kept)

    def test_by_hand(self):
        first, second = ((0, 0), (3, 3, 3, 0)), ((1, 1), (3, 3, 3, 0))
        self.assertIs(holds_entries([8, 8], [first, ((0, 1), (16, 8, 8, 5)), second]), True)
        self.assertIs(holds_entries([8, 8], [first, ((0, 1), (16, 7, 9, 5)), second]), False)
        self.assertIs(holds_entries([7], [((0, 0), (7, 7, 7, 0))]), True)
        self.assertIs(holds_entries([7], [((0, 0), (6, 6, 6, 1))]), False)
        self.assertIs(holds_entries([7], [((0, 0), (7, 7, 7, 1))]), False)
        self.assertIs(holds_entries([7], [((0, 0), (7, 7, 8, 0))]), False)

    def test_spoilt_entries(self):
        for row, entries in one_entries_each([1, 2, 3, 4, 5, 7, 8, 1, 2, 3]):
            for thing in spoilt_tables(entries):
                self.assertIs(holds_entries(row, thing), False, (row, thing))

    def test_spoilt_great_entries(self):
        for row, entries in one_entries_each([120, 64, 33]):
            for thing in spoilt_tables(entries, 3):
                self.assertIs(holds_entries(row, thing), False, row)

    def test_every_number_one_more_or_less(self):
        for row, entries in one_entries_each(SMALL_ROWS + [16, 21, 120]):
            for index in some_indexes(len(entries), 45):
                stretch, values = entries[index]
                for part, more in itertools.product(range(4), (1, -1)):
                    other = values[:part] + (values[part] + more,) + values[part + 1:]
                    self.assertIs(holds_entries(row, with_entry(entries, index, other)), False, (row, stretch, part))
                    anew = put_anew_around(with_entry(entries, index, other), stretch)
                    self.assertIs(holds_entries(row, anew), False, (row, stretch, part))

    def test_all_of_an_entry_one_more_or_less(self):
        for row, entries in one_entries_each(SMALL_ROWS + [16, 120]):
            for index in some_indexes(len(entries), 45):
                (low, high), (total, least, greatest, waits) = entries[index]
                for more in (1, -1):
                    for also in (0, more):
                        other = (total + more * (high - low + 1), least + more, greatest + more, waits + also)
                        anew = put_anew_around(with_entry(entries, index, other), (low, high))
                        self.assertIs(holds_entries(row, anew), False, (row, low, high))

    def test_waits_of_a_single_cell(self):
        for row, entries in one_entries_each(SMALL_ROWS + [120]):
            for place in some_indexes(len(row), 6):
                index = [stretch for stretch, values in entries].index((place, place))
                cell = entries[index][1][0]
                for waits in (1, -1, THIRTY):
                    for first in (cell, cell - waits, cell + waits):
                        spoilt = with_entry(entries, index, (first, first, first, waits))
                        self.assertIs(holds_entries(row, spoilt), False, (row, place))
                        self.assertIs(holds_entries(row, put_anew_around(spoilt, (place, place))), False, (row, place))

    def test_waits_handed_down_to_both_halves_are_right(self):
        for row in one_row_each(SMALL_ROWS[1:] + [120]):
            for shift in (1, -4, THIRTY):
                whole = (0, len(row) - 1)
                middle = whole[1] // 2
                waits = {whole: shift, (0, middle): -shift, (middle + 1, whole[1]): -shift}
                entries = right_entries(row, lambda low, high: waits.get((low, high), 0))
                self.assertIs(holds_entries(row, entries), True)

    def test_entries_of_another_row(self):
        for row, entries in one_entries_each(SMALL_ROWS + GREAT_ROWS):
            for place in some_indexes(len(row), 5):
                for more in (1, -1, THIRTY):
                    other = row[:place] + [row[place] + more] + row[place + 1:]
                    self.assertIs(holds_entries(other, entries), False, (row, place))
            self.assertIs(holds_entries(row + [row[-1]], entries), False)
            if len(row) > 1:
                self.assertIs(holds_entries(row[:-1], entries), False)
        self.assertIs(holds_entries([1, 2], Keeper([2, 1]).entries()), False)
        self.assertIs(holds_entries([0, 0, 0, 1], Keeper([0, 0, 1, 0]).entries()), False)

    def test_other_stretches(self):
        for row, entries in one_entries_each([2, 3, 4, 5, 8]):
            for index, (stretch, values) in enumerate(entries):
                others = all_stretches(len(row)) + [(stretch[1], stretch[0]), (-1, 0), (0, len(row))]
                for other in others:
                    if other != stretch:
                        spoilt = entries[:index] + [(other, values)] + entries[index + 1:]
                        self.assertIs(holds_entries(row, spoilt), False, (row, stretch, other))
        # Halved otherwise, with the odd cell in the second half.
        self.assertIs(holds_entries([5, 5, 5], [((0, 0), (5, 5, 5, 0)), ((0, 2), (15, 5, 5, 0)),
                                                ((1, 1), (5, 5, 5, 0)), ((1, 2), (10, 5, 5, 0)),
                                                ((2, 2), (5, 5, 5, 0))]), False)

    def test_things_of_every_kind(self):
        for row in one_row_each([1, 2, 3, 5]) + [[0], [1], [0, 0], [1, 1]]:
            many = 2 * len(row) - 1
            right = Keeper(row).entries()
            for thing in odd_things():
                kept = copy.deepcopy(thing)
                for shown in [thing, [thing] * many, [(thing, thing)] * many, [thing] + right[1:],
                              [(thing, right[0][1])] + right[1:], [(right[0][0], thing)] + right[1:]]:
                    if repr(shown) != repr(right):
                        self.assertIs(holds_entries(row, shown), False, (row, shown))
                self.assertEqual(thing, kept)

    def test_truths_and_others_for_numbers(self):
        for row in ([0], [1], [0, 0], [1, 0], [1, 1, 1]):
            right = Keeper(row).entries()
            for index, (stretch, values) in enumerate(right):
                for part, wrong in itertools.product(range(4), wrong_numbers()):
                    other = values[:part] + (wrong,) + values[part + 1:]
                    self.assertIs(holds_entries(row, with_entry(right, index, other)), False, (row, index, wrong))
                for part, wrong in itertools.product(range(2), wrong_numbers()):
                    other = stretch[:part] + (wrong,) + stretch[part + 1:]
                    spoilt = right[:index] + [(other, values)] + right[index + 1:]
                    self.assertIs(holds_entries(row, spoilt), False, (row, index, wrong))
        self.assertIs(holds_entries([1], [((0, 0), (True, True, True, False))]), False)
        self.assertIs(holds_entries([0], [((False, False), (0, 0, 0, 0))]), False)


class Answers(unittest.TestCase):
    def test_by_entries_against_the_cells(self):
        for row in rows_for(SMALL_ROWS) + one_row_each(GREAT_ROWS):
            for entries in entries_for(row):
                kept = list(entries)
                for low, high in stretches_asked(len(row), 25):
                    told = by_entries(entries, low, high)
                    self.assertIs(type(told), tuple)
                    self.assertEqual(told, plain_told(row[low:high + 1]), (row, low, high))
                self.assertEqual(entries, kept)

    def test_every_stretch_of_a_great_row(self):
        row, entries = one_entries_each([1, 2, 3, 120])[3]
        for low, high in all_stretches(120):
            self.assertEqual(by_entries(entries, low, high), plain_told(row[low:high + 1]))
