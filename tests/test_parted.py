"""A row parted by worth: point 19."""

import copy
import itertools
import unittest

from boxsums.parted import holds_parted, parted, worths
from tests.samples import (GREAT_ROWS, SMALL_ROWS, THIRTY, all_stretches, odd_things, one_row_each, rows_for,
                           some_indexes, spoilt_parts, wrong_numbers)
from tests.test_halves import plain_stretches

ROWS = [[5], [0], [1, 0], [0, 1, 0], [2, 2, 2], [3, 1, 2, 1], [-4, 7, -4, 0, 7, 7, 1], [6, 5, 4, 3, 2, 1],
        [THIRTY, -THIRTY, 0, THIRTY], list(range(-60, 60)), [k * 7 % 11 for k in range(120)], [9] * 120]


def plain_worths(row):
    found = []
    for number in row:
        if number not in found:
            found.append(number)
    for turn in found:
        for index in range(len(found) - 1):
            if found[index] > found[index + 1]:
                found[index], found[index + 1] = found[index + 1], found[index]
    return found


def plain_parted(row):
    """The parting, each cell of each stretch gone through one by one."""
    rising = plain_worths(row)
    found = []
    for a, b in sorted(plain_stretches(0, len(rising) - 1)):
        if a < b:
            flags = ()
            for number in row:
                place = rising.index(number)
                if a <= place <= b:
                    flags += (1,) if place > (a + b) // 2 else (0,)
            found.append(((a, b), flags))
    return found


def spoilt_partings(right, most=4):
    """Things that the parting is not, each but a little unlike it."""
    things = [tuple(right), dict(right), dict(enumerate(right)), [right], [tuple(right)], right + [None], [None] * 3,
              repr(right), right + [((0, 1), (0, 1, 1, 1, 0))], [list(entry) for entry in right] + [None]]
    for index in some_indexes(len(right), most):
        ahead, (stretch, flags), behind = right[:index], right[index], right[index + 1:]
        things.extend([ahead + behind, ahead + [right[index]] * 2 + behind, ahead + [list(right[index])] + behind,
                       ahead + [(stretch, list(flags))] + behind, ahead + [(list(stretch), flags)] + behind,
                       ahead + [(flags, stretch)] + behind, ahead + [(stretch, flags, flags)] + behind,
                       ahead + [(stretch, flags + (0,))] + behind, ahead + [(stretch, flags + (1,))] + behind,
                       ahead + [(stretch,) + flags] + behind, ahead + [(stretch, dict(enumerate(flags)))] + behind])
        for other in some_indexes(len(right), most):
            if other != index:
                exchanged = list(right)
                exchanged[index], exchanged[other] = exchanged[other], exchanged[index]
                things.extend([exchanged, ahead + [right[other]] + behind,
                               ahead + [(right[other][0], flags)] + behind])
        for place in some_indexes(len(flags), 8):
            first, flag, last = flags[:place], flags[place], flags[place + 1:]
            for middle in [(1 - flag,), (), (flag, flag), (flag == 1,), (flag == 0,), (str(flag),), (None,), (2,),
                           (-1,), ((flag,),), ([flag],)]:
                things.append(ahead + [(stretch, first + middle + last)] + behind)
        if len(flags) <= 8:
            things.extend(ahead + [other] + behind for other in spoilt_parts(right[index]))
    return [thing for thing in things if repr(thing) != repr(right)]


class Worths(unittest.TestCase):
    def test_against_one_by_one(self):
        for row in ROWS + rows_for(SMALL_ROWS) + one_row_each(GREAT_ROWS):
            kept = list(row)
            told = worths(row)
            self.assertIs(type(told), list)
            self.assertEqual(told, plain_worths(row))
            told.append(None)
            self.assertEqual(worths(row), plain_worths(row))
            self.assertEqual(row, kept)


class Parted(unittest.TestCase):
    def test_against_one_by_one(self):
        for row in ROWS + rows_for(SMALL_ROWS) + one_row_each(GREAT_ROWS) + rows_for([120]):
            kept = list(row)
            told = parted(row)
            self.assertIs(type(told), list)
            self.assertEqual(told, plain_parted(row), row)
            for entry in told:
                self.assertEqual([type(part) for part in (entry,) + entry], [tuple, tuple, tuple])
                self.assertEqual({type(flag) for flag in entry[1]}, {int})
            self.assertEqual(row, kept)

    def test_by_hand(self):
        self.assertEqual(parted([5]), [])
        self.assertEqual(parted([2, 2, 2]), [])
        self.assertEqual(parted([1, 0]), [((0, 1), (1, 0))])
        self.assertEqual(parted([3, 1, 2, 1]), [((0, 1), (0, 1, 0)), ((0, 2), (1, 0, 0, 0))])

    def test_told_partings_are_the_askers_own(self):
        row = [3, 1, 2, 1]
        told = parted(row)
        told.reverse()
        told.pop()
        self.assertEqual(parted(row), plain_parted(row))
        later = parted(row)
        row[0] = 1
        self.assertEqual(later, plain_parted([3, 1, 2, 1]))


class Look(unittest.TestCase):
    def test_the_parting_holds(self):
        for row in ROWS + rows_for(SMALL_ROWS) + one_row_each(GREAT_ROWS):
            right = plain_parted(row)
            kept = (list(row), list(right))
            self.assertIs(holds_parted(row, right), True, row)
            self.assertEqual((row, right), kept)

    def test_spoilt_partings(self):
        for row in ROWS[:9] + one_row_each(SMALL_ROWS):
            right = plain_parted(row)
            for thing in spoilt_partings(right):
                self.assertIs(holds_parted(row, thing), False, (row, thing))

    def test_spoilt_great_partings(self):
        for row in ROWS[9:] + one_row_each(GREAT_ROWS):
            right = plain_parted(row)
            for thing in spoilt_partings(right):
                self.assertIs(holds_parted(row, thing), False, row)

    def test_each_flag_turned(self):
        for row in ROWS[:10]:
            right = plain_parted(row)
            for index, (stretch, flags) in enumerate(right):
                for place, flag in enumerate(flags):
                    other = (stretch, flags[:place] + (1 - flag,) + flags[place + 1:])
                    self.assertIs(holds_parted(row, right[:index] + [other] + right[index + 1:]), False, row)

    def test_other_stretches(self):
        for row in ROWS[2:9]:
            right = plain_parted(row)
            for index, (stretch, flags) in enumerate(right):
                for other in all_stretches(len(row)) + [(stretch[1], stretch[0]), (0, len(row)), (-1, 1)]:
                    if other != stretch:
                        spoilt = right[:index] + [(other, flags)] + right[index + 1:]
                        self.assertIs(holds_parted(row, spoilt), False, (row, other))
        # The whole halved with the odd worth in the second half, and entries of single worths.
        self.assertIs(holds_parted([1, 2, 3], [((0, 2), (0, 1, 1)), ((1, 2), (0, 1))]), False)
        self.assertIs(holds_parted([1, 2], [((0, 0), (0,)), ((0, 1), (0, 1)), ((1, 1), (0,))]), False)
        self.assertIs(holds_parted([4], [((0, 0), (0,))]), False)

    def test_partings_of_other_rows(self):
        rows = [list(numbers) for many in (1, 2, 3, 4) for numbers in itertools.product((0, 1, 2), repeat=many)]
        for row in rows[::5]:
            for other in rows:
                same = plain_parted(row) == plain_parted(other)
                self.assertIs(holds_parted(row, plain_parted(other)), same, (row, other))
        self.assertIs(holds_parted([5, -9, 5], parted([THIRTY, 0, THIRTY])), True)
        self.assertIs(holds_parted([5, 5], []), True)

    def test_things_of_every_kind(self):
        for row in ROWS[:7]:
            right = plain_parted(row)
            for thing in odd_things():
                kept = copy.deepcopy(thing)
                shown = [thing, [thing] * len(right), [(thing, thing)] * len(right)]
                for stretch, flags in right[:1]:
                    shown += [[first] + right[1:] for first in (thing, (thing, flags), (stretch, thing))]
                for other in shown:
                    if repr(other) != repr(right):
                        self.assertIs(holds_parted(row, other), False, (row, other))
                self.assertEqual(thing, kept)

    def test_truths_and_others_for_numbers(self):
        for row in ([0, 1], [1, 0, 1], [1, 2, 0]):
            right = plain_parted(row)
            for index, (stretch, flags) in enumerate(right):
                for wrong in wrong_numbers():
                    for place in range(len(flags)):
                        other = (stretch, flags[:place] + (wrong,) + flags[place + 1:])
                        self.assertIs(holds_parted(row, right[:index] + [other] + right[index + 1:]), False)
                    for other in [((wrong, stretch[1]), flags), ((stretch[0], wrong), flags)]:
                        self.assertIs(holds_parted(row, right[:index] + [other] + right[index + 1:]), False)
        self.assertIs(holds_parted([1, 2], [((False, True), (0, 1))]), False)
        self.assertIs(holds_parted([1, 2], [((0, 1), (False, True))]), False)
