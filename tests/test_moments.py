"""The moments of steps: point 18."""

import copy
import random
import unittest

from boxsums.moments import moments_of, sum_by_moments
from boxsums.steps import lifted, steps_of
from tests.samples import (GREAT_SIDES, SMALL_SIDES, THIRTY, boxes_for, cell_lists, fields_for, lies_in,
                           one_field_each, plain_cells, plain_places, some_boxes)
from tests.test_steps import plain_lifted

FORTY = 10 ** 40 - 1


def plain_moments(sides, steps):
    """The moments, for each set by its number each place gone through by itself."""
    places = plain_places(sides)
    first = places[0]
    found = []
    for number in range(2 ** len(sides)):
        times = []
        for place, step in zip(places, steps):
            for way in range(len(sides)):
                if number & 1 << way:
                    step *= place[way]
            times.append(step)
        found.append([sum(one for other, one in zip(places, times) if lies_in(other, (first, place)))
                      for place in places])
    return found


class Moments(unittest.TestCase):
    def right(self, sides, steps):
        kept = list(steps)
        told = moments_of(sides, steps)
        self.assertEqual([type(part) for part in [told] + told], [list] * (1 + 2 ** len(sides)))
        self.assertEqual(told, plain_moments(sides, steps), sides)
        self.assertEqual(steps, kept)

    def test_of_small_fields(self):
        for sides in SMALL_SIDES:
            for numbers in cell_lists(sides) + [[FORTY] * len(plain_places(sides))]:
                self.right(sides, numbers)

    def test_of_great_fields(self):
        for field in one_field_each(GREAT_SIDES):
            self.right(field[0], steps_of(field))

    def test_by_hand(self):
        self.assertEqual(moments_of((1,), [6]), [[6], [0]])
        self.assertEqual(moments_of((3,), [5, -1, 4]), [[5, 4, 8], [0, -1, 7]])
        self.assertEqual(moments_of((2, 3), [1, 10, 100, 1000, 10000, 100000]),
                         [[1, 11, 111, 1001, 11011, 111111], [0, 0, 0, 1000, 11000, 111000],
                          [0, 10, 210, 0, 10010, 210210], [0, 0, 0, 0, 10000, 210000]])
        ways = [table[-1] for table in moments_of((2, 3, 4), [0] * 23 + [1])]
        self.assertEqual(ways, [1, 1, 2, 2, 3, 3, 6, 6])

    def test_told_lists_are_the_askers_own(self):
        steps = [5, -1, 4]
        told = moments_of((3,), steps)
        told[0][0] = None
        told[1].clear()
        told.pop()
        self.assertEqual(steps, [5, -1, 4])
        later = moments_of((3,), steps)
        steps[0] = 90
        self.assertEqual(later, [[5, 4, 8], [0, -1, 7]])
        for one, other in [(0, 1), (1, 0)]:
            alike = moments_of((1, 1), [0])
            alike[one].append(7)
            self.assertEqual(alike[other], [0])


class Sums(unittest.TestCase):
    def right(self, field, moments, most=25):
        kept = copy.deepcopy(moments)
        for box in boxes_for(field[0], most):
            self.assertEqual(sum_by_moments(field[0], moments, box), sum(plain_cells(field, box)), (field, box))
        self.assertEqual(moments, kept)

    def test_all_boxes_of_small_fields(self):
        for field in fields_for(SMALL_SIDES):
            self.right(field, plain_moments(field[0], steps_of(field)))

    def test_boxes_of_great_fields(self):
        for field in one_field_each(GREAT_SIDES):
            self.right(field, moments_of(field[0], steps_of(field)))

    def test_behind_lifts(self):
        for field in one_field_each(SMALL_SIDES + [(120,), (10, 12), (4, 5, 6)]):
            sides = field[0]
            chance = random.Random(f"moments {sides}")
            steps = steps_of(field)
            for box in some_boxes(sides, 7):
                number = chance.choice([1, -5, 0, THIRTY, -THIRTY, FORTY])
                steps = lifted(sides, steps, box, number)[0]
                field = plain_lifted(field, box, number)
                self.right(field, moments_of(sides, steps), 8)

    def test_by_moments_alone(self):
        self.assertEqual(sum_by_moments((3,), [[5, 4, 8], [0, -1, 7]], ((0,), (2,))), 17)
        self.assertEqual(sum_by_moments((3,), [[5, 4, 8], [0, -1, 7]], ((1,), (1,))), 4)
        self.assertEqual(sum_by_moments((2, 3), [[0] * 6, [0] * 6, [0] * 6, [0, 0, 0, 0, 0, 7]],
                                        ((0, 1), (1, 2))), 7)
        self.assertEqual(sum_by_moments((2, 3), [[0] * 6, [0] * 6, [0, 0, 0, 0, 0, 7], [0] * 6],
                                        ((0, 1), (1, 2))), -14)
        self.assertEqual(sum_by_moments((2, 3), [[0] * 6, [0, 0, 0, 0, 0, 7], [0] * 6, [0] * 6],
                                        ((0, 1), (1, 2))), -21)
