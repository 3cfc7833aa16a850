"""The steps of a field: point 17."""

import itertools
import random
import unittest

from boxsums.steps import field_by, lifted, steps_of
from tests.samples import (GREAT_SIDES, SMALL_SIDES, THIRTY, boxes_for, cell_lists, fields_for, lies_in,
                           one_field_each, plain_boxes, plain_places, some_boxes)

FORTY = 10 ** 40 - 1
NUMBERS = (1, -1, 0, 7, THIRTY, -THIRTY, FORTY, -FORTY)


def plain_running(sides, steps):
    """The running table of numbers, each place gone through by itself."""
    places = plain_places(sides)
    first = places[0]
    return [sum(step for other, step in zip(places, steps) if lies_in(other, (first, place))) for place in places]


def plain_lifted(field, box, number):
    sides, cells = field
    return (sides, tuple(cell + number if lies_in(place, box) else cell
                         for place, cell in zip(plain_places(sides), cells)))


def plain_ends(sides, box):
    """Which places a lift touches, with how many of their numbers are of the high's."""
    found = {}
    for chosen in itertools.product((0, 1), repeat=len(sides)):
        place = tuple(box[0][way] if not one else box[1][way] + 1 for way, one in enumerate(chosen))
        if all(number < side for number, side in zip(place, sides)):
            found[place] = sum(chosen)
    return found


class Steps(unittest.TestCase):
    def right(self, field):
        sides, cells = field
        told = steps_of(field)
        self.assertIs(type(told), list)
        self.assertEqual(plain_running(sides, told), list(cells), field)
        again = field_by(sides, told)
        self.assertEqual(again, field)
        self.assertEqual([type(part) for part in (again,) + again], [tuple, tuple, tuple])

    def test_steps_of_small_fields(self):
        for field in fields_for(SMALL_SIDES):
            self.right(field)

    def test_steps_of_great_fields(self):
        for field in one_field_each(GREAT_SIDES):
            self.right(field)

    def test_field_by_of_whatever_steps(self):
        for sides in SMALL_SIDES + [(10, 12), (120,), (4, 5, 6)]:
            for steps in cell_lists(sides) + [[FORTY] * len(plain_places(sides))]:
                kept = list(steps)
                self.assertEqual(field_by(sides, steps), (sides, tuple(plain_running(sides, steps))))
                self.assertEqual(steps, kept)

    def test_by_hand(self):
        self.assertEqual(steps_of(((1,), (6,))), [6])
        self.assertEqual(steps_of(((4,), (6, 6, 2, 5))), [6, 0, -4, 3])
        self.assertEqual(steps_of(((2, 2), (1, 3, 2, 9))), [1, 2, 1, 5])
        self.assertEqual(steps_of(((2, 2, 2), (1, 1, 1, 1, 1, 1, 1, 4))), [1, 0, 0, 0, 0, 0, 0, 3])
        self.assertEqual(field_by((2, 2), [1, 2, 1, 5]), ((2, 2), (1, 3, 2, 9)))

    def test_told_steps_are_the_askers_own(self):
        field = ((2, 2), (1, 3, 2, 9))
        steps_of(field).clear()
        self.assertEqual(steps_of(field), [1, 2, 1, 5])
        steps = [1, 2, 1, 5]
        again = field_by((2, 2), steps)
        steps[0] = 50
        self.assertEqual(again, field)


class Lifted(unittest.TestCase):
    def right(self, field, steps, box, number):
        sides = field[0]
        kept = list(steps)
        told = lifted(sides, steps, box, number)
        self.assertEqual(steps, kept)
        self.assertIs(type(told), tuple)
        self.assertEqual([type(part) for part in told], [list, list])
        behind, places = told
        ends = plain_ends(sides, box)
        self.assertEqual(places, sorted(ends), (sides, box))
        for place, old, new in zip(plain_places(sides), steps, behind):
            more = 0 if place not in ends else -number if ends[place] % 2 else number
            self.assertEqual(new, old + more, (sides, box, place))
        other = plain_lifted(field, box, number)
        self.assertEqual(field_by(sides, behind), other, (field, box, number))
        self.assertEqual(behind, steps_of(other))
        return other, behind

    def test_every_box_of_small_fields(self):
        for turn, field in enumerate(one_field_each(SMALL_SIDES)):
            steps = steps_of(field)
            for index, box in enumerate(plain_boxes(field[0])):
                self.right(field, steps, box, NUMBERS[(turn + index) % len(NUMBERS)])

    def test_boxes_of_great_fields(self):
        for field in one_field_each(GREAT_SIDES):
            steps = steps_of(field)
            for index, box in enumerate(boxes_for(field[0], 8)):
                self.right(field, steps, box, NUMBERS[index % len(NUMBERS)])

    def test_each_number_on_edges_whole_and_single_cells(self):
        for field in one_field_each([(1,), (6,), (3, 4), (1, 5), (2, 3, 2)]):
            for box in some_boxes(field[0], 6):
                for number in NUMBERS:
                    self.right(field, steps_of(field), box, number)

    def test_one_lift_behind_the_other(self):
        for field in one_field_each([(1,), (12,), (4, 3), (2, 2, 3), (120,), (10, 12), (4, 5, 6)]):
            steps = steps_of(field)
            chance = random.Random(f"lifts {field[0]}")
            for box in some_boxes(field[0], 8):
                field, steps = self.right(field, steps, box, chance.choice(NUMBERS))

    def test_by_hand(self):
        self.assertEqual(lifted((4,), [6, 0, -4, 3], ((1,), (2,)), 5), ([6, 5, -4, -2], [(1,), (3,)]))
        self.assertEqual(lifted((4,), [6, 0, -4, 3], ((1,), (3,)), 5), ([6, 5, -4, 3], [(1,)]))
        self.assertEqual(lifted((2, 2), [1, 2, 1, 5], ((0, 0), (0, 0)), 3),
                         ([4, -1, -2, 8], [(0, 0), (0, 1), (1, 0), (1, 1)]))
        self.assertEqual(lifted((2, 2), [1, 2, 1, 5], ((0, 0), (1, 0)), 3), ([4, -1, 1, 5], [(0, 0), (0, 1)]))
        self.assertEqual(lifted((2, 2), [1, 2, 1, 5], ((0, 0), (1, 1)), 0), ([1, 2, 1, 5], [(0, 0)]))

    def test_told_lists_are_the_askers_own(self):
        steps = [6, 0, -4, 3]
        told = lifted((4,), steps, ((1,), (2,)), 0)
        told[0][0] = None
        told[1].clear()
        self.assertEqual(steps, [6, 0, -4, 3])
        later = lifted((4,), steps, ((1,), (2,)), 0)
        steps[0] = 1
        self.assertEqual(later, ([6, 0, -4, 3], [(1,), (3,)]))
