"""How many are less, and the so-manieth least: point 20."""

import random
import unittest

from boxsums.errors import BoxError, NoNumber
from boxsums.sought import how_many_less, so_manieth
from tests.samples import GREAT_ROWS, SMALL_ROWS, THIRTY, all_stretches, one_row_each, rows_for, stretches_asked
from tests.test_parted import ROWS, plain_worths

FORTY = 10 ** 40 - 1


def plain_trace(row, low, high, worth):
    """The trace to a worth: for each stretch gone through, how many of its cells stand ahead of from and to."""
    rising = plain_worths(row)
    aim = rising.index(worth)
    a, b = 0, len(rising) - 1
    trace = []
    while True:
        from_, to = [sum(a <= rising.index(number) <= b for number in row[:end]) for end in (low, high + 1)]
        trace.append(((a, b), from_, to))
        if a == b:
            return trace
        middle = (a + b) // 2
        a, b = (a, middle) if aim <= middle else (middle + 1, b)


class Less(unittest.TestCase):
    def right(self, row, most=20):
        kept = list(row)
        rising = plain_worths(row)
        numbers = {number + more for number in rising[:3] + rising[-3:] + rising[len(rising) // 2:][:2]
                   for more in (-1, 0, 1)} | {0, THIRTY, -THIRTY, FORTY, -FORTY, rising[0] - 5, rising[-1] + 5}
        for low, high in stretches_asked(len(row), most):
            for number in sorted(numbers):
                told = how_many_less(row, low, high, number)
                self.assertIs(type(told), int)
                awaited = len([cell for cell in row[low:high + 1] if cell < number])
                self.assertEqual(told, awaited, (row, low, high, number))
        self.assertEqual(row, kept)

    def test_small_rows(self):
        for row in ROWS[:9] + rows_for(SMALL_ROWS[:6]) + one_row_each(SMALL_ROWS):
            self.right(row)

    def test_great_rows(self):
        for row in ROWS[9:] + one_row_each(GREAT_ROWS):
            self.right(row, 12)

    def test_by_hand(self):
        row = [3, 1, 2, 1]
        self.assertEqual([how_many_less(row, 0, 3, number) for number in (0, 1, 2, 3, 4)], [0, 0, 2, 3, 4])
        self.assertEqual([how_many_less(row, 2, 3, number) for number in (0, 1, 2, 3, 4)], [0, 0, 1, 2, 2])
        self.assertEqual([how_many_less([7], 0, 0, number) for number in (6, 7, 8)], [0, 0, 1])


class SoManieth(unittest.TestCase):
    def right(self, row, low, high, many):
        told = so_manieth(row, low, high, many)
        self.assertEqual([type(part) for part in (told,) + told], [tuple, type(row[0]), list])
        worth = sorted(row[low:high + 1])[many]
        self.assertEqual(told[0], worth, (row, low, high, many))
        self.assertEqual(told[1], plain_trace(row, low, high, worth), (row, low, high, many))

    def test_every_one_of_every_stretch_of_small_rows(self):
        for row in ROWS[:9] + rows_for(SMALL_ROWS[:6]) + one_row_each(SMALL_ROWS):
            kept = list(row)
            for low, high in all_stretches(len(row)):
                for many in range(high - low + 1):
                    self.right(row, low, high, many)
            self.assertEqual(row, kept)

    def test_many_of_great_rows(self):
        for row in ROWS[9:] + one_row_each(GREAT_ROWS):
            chance = random.Random(f"sought {len(row)}")
            for low, high in stretches_asked(len(row), 12):
                for many in {0, high - low, (high - low) // 2, chance.randrange(high - low + 1)}:
                    self.right(row, low, high, many)

    def test_by_hand(self):
        row = [3, 1, 2, 1]
        self.assertEqual(so_manieth(row, 0, 3, 0), (1, [((0, 2), 0, 4), ((0, 1), 0, 3), ((0, 0), 0, 2)]))
        self.assertEqual(so_manieth(row, 0, 3, 2), (2, [((0, 2), 0, 4), ((0, 1), 0, 3), ((1, 1), 0, 1)]))
        self.assertEqual(so_manieth(row, 0, 3, 3), (3, [((0, 2), 0, 4), ((2, 2), 0, 1)]))
        self.assertEqual(so_manieth(row, 2, 3, 1), (2, [((0, 2), 2, 4), ((0, 1), 1, 3), ((1, 1), 0, 1)]))
        self.assertEqual(so_manieth([8, 8, 8], 1, 2, 1), (8, [((0, 0), 1, 3)]))

    def test_so_many_that_there_are_not(self):
        for row in ROWS + one_row_each(SMALL_ROWS):
            for low, high in stretches_asked(len(row), 6):
                length = high - low + 1
                for many in (-1, -2, -length, -THIRTY, length, length + 1, 2 * length, len(row) + 3, THIRTY, FORTY):
                    with self.assertRaises(NoNumber, msg=(row, low, high, many)) as caught:
                        so_manieth(row, low, high, many)
                    self.assertIsInstance(caught.exception, BoxError)

    def test_told_traces_are_the_askers_own(self):
        row = [3, 1, 2, 1]
        told = so_manieth(row, 0, 3, 3)
        told[1].clear()
        later = so_manieth(row, 0, 3, 3)
        row[0] = 0
        self.assertEqual(later, (3, [((0, 2), 0, 4), ((2, 2), 0, 1)]))
