"""All ways of keeping answer alike, and whatever table a look lets by answers truly: point 3."""

import itertools
import random
import unittest

from boxsums.bests import best_of, holds_bests
from boxsums.counted import all_of, how_many_of
from boxsums.fields import all_boxes
from boxsums.keeper import Keeper
from boxsums.looks import by_entries, holds_entries
from boxsums.moments import moments_of, sum_by_moments
from boxsums.parted import parted, worths
from boxsums.plain import greatest_in, least_in, sum_in
from boxsums.powers import by_powers, holds_powers, met_by, powers_of
from boxsums.running import holds_running, running_of, sum_by_running, touched_by
from boxsums.sought import how_many_less, so_manieth
from boxsums.steps import field_by, lifted, steps_of
from boxsums.tables import box_cover, by_halves, changed_halves, halves_of, holds_halves
from boxsums.turned import (box_exchanged, box_mirrored, box_stretched, cut, exchanged, mirrored, stretched)
from boxsums.windows import line, windows
from tests.samples import (SMALL_ROWS, SMALL_SIDES, THIRTY, boxes_for, one_field_each, one_row_each, plain_cells,
                           plain_places, plain_told, stretches_asked, with_cell)


class Alike(unittest.TestCase):
    def alike(self, field, halves, box):
        sides = field[0]
        cells = plain_cells(field, box)
        awaited = (sum(cells), min(cells), max(cells))
        self.assertEqual((sum_in(field, box), least_in(field, box), greatest_in(field, box)), awaited)
        self.assertEqual(sum_by_running(sides, running_of(field), box), awaited[0])
        self.assertEqual(by_halves(sides, halves, box), awaited)
        self.assertEqual(by_powers(sides, powers_of(field), box), awaited[1:])
        self.assertEqual(sum_by_moments(sides, moments_of(sides, steps_of(field)), box), awaited[0])

    def test_behind_changes(self):
        for field in one_field_each(SMALL_SIDES + [(40,), (5, 6), (3, 3, 4)]):
            chance = random.Random(f"changes {field[0]}")
            places = plain_places(field[0])
            halves = halves_of(field)
            for turn in range(8):
                place = chance.choice(places)
                number = chance.choice([0, 1, -1, chance.randrange(-99, 100), THIRTY, -THIRTY])
                halves = changed_halves(field[0], halves, place, number)[0]
                field = with_cell(field, place, number)
                self.assertEqual(halves, halves_of(field))
                boxes = boxes_for(field[0], 30)
                for box in chance.sample(boxes, min(3, len(boxes))):
                    self.alike(field, halves, box)

    def test_somewhat_beyond_the_bound_of_cells(self):
        for sides in [(121,), (11, 12), (5, 5, 5)]:
            many = len(plain_places(sides))
            field = (sides, tuple(7 * k % 31 - 15 for k in range(many)))
            halves = halves_of(field)
            self.assertIs(holds_running(field, running_of(field)), True)
            self.assertIs(holds_halves(field, halves), True)
            self.assertIs(holds_powers(field, powers_of(field)), True)
            for box in boxes_for(sides, 8):
                self.alike(field, halves, box)


class RowsAlike(unittest.TestCase):
    def lift(self, low, high, number):
        self.keeper.lift(low, high, number)
        self.steps = lifted((len(self.row),), self.steps, ((low,), (high,)), number)[0]
        self.row = [cell + number if low <= place <= high else cell for place, cell in enumerate(self.row)]

    # By steps a cell becomes a number where it alone is lifted by what lacks.
    def put(self, place, number):
        self.keeper.put(place, number)
        box = ((place,), (place,))
        self.steps = lifted((len(self.row),), self.steps, box, number - self.row[place])[0]
        self.row[place] = number

    def alike(self):
        sides = (len(self.row),)
        field = field_by(sides, self.steps)
        self.assertEqual(field, (sides, tuple(self.row)))
        self.assertEqual(self.keeper.row(), self.row)
        entries = self.keeper.entries()
        self.assertIs(holds_entries(self.row, entries), True)
        halves, running, powers = halves_of(field), running_of(field), powers_of(field)
        moments = moments_of(sides, self.steps)
        most = best_of(field)[0]
        for low, high in stretches_asked(len(self.row), 10):
            box = ((low,), (high,))
            awaited = plain_told(self.row[low:high + 1])
            self.assertEqual(self.keeper.told(low, high), awaited)
            self.assertEqual(by_entries(entries, low, high), awaited)
            self.assertEqual(by_halves(sides, halves, box), awaited)
            self.assertEqual((sum_by_running(sides, running, box),) + by_powers(sides, powers, box), awaited)
            self.assertEqual(sum_by_moments(sides, moments, box), awaited[0])
            self.assertEqual(so_manieth(self.row, low, high, 0)[0], awaited[1])
            self.assertEqual(so_manieth(self.row, low, high, high - low)[0], awaited[2])
            self.assertEqual(how_many_less(self.row, low, high, awaited[1]), 0)
            self.assertLessEqual(awaited[0], most)

    def test_behind_deeds(self):
        for row in one_row_each(SMALL_ROWS + [40, 120]):
            chance = random.Random(f"row deeds {len(row)}")
            self.row, self.keeper, self.steps = list(row), Keeper(row), steps_of(((len(row),), tuple(row)))
            for turn in range(8):
                number = chance.choice([0, 1, -1, chance.randrange(-99, 100), THIRTY, -THIRTY])
                low, high = sorted((chance.randrange(len(row)), chance.randrange(len(row))))
                if turn % 3 == 0:
                    self.put(low, number)
                else:
                    self.lift(low, high, number)
                self.alike()
            for turn in range(8):
                self.keeper.back()
            self.assertEqual(self.keeper.row(), row)


class Carried(unittest.TestCase):
    """What is told of a field is told of the turned one, its boxes turned likewise."""

    def answers(self, field, box):
        sides = field[0]
        by_halves_told = by_halves(sides, halves_of(field), box)
        self.assertEqual((sum_in(field, box), least_in(field, box), greatest_in(field, box)), by_halves_told)
        self.assertEqual(sum_by_running(sides, running_of(field), box), by_halves_told[0])
        self.assertEqual(sum_by_moments(sides, moments_of(sides, steps_of(field)), box), by_halves_told[0])
        self.assertEqual(by_powers(sides, powers_of(field), box), by_halves_told[1:])
        return by_halves_told

    def carried(self, field, turned, turn):
        most, box, paper = best_of(field)
        turned_most, turned_box, turned_paper = best_of(turned)
        self.assertEqual(turned_most, most)
        self.assertEqual(turned_box, min(turn(one) for one in all_of(field, most)))
        self.assertIs(holds_bests(turned, most, turned_paper), True)
        for number in sorted({0, 1, most, field[1][0], field[1][-1], sum(field[1])}):
            self.assertEqual(all_of(turned, number), sorted(turn(one) for one in all_of(field, number)))
            self.assertEqual(how_many_of(turned, number), how_many_of(field, number))
        for box in boxes_for(field[0], 6)[:20]:
            self.assertEqual(self.answers(turned, turn(box)), self.answers(field, box))

    def test_exchanged_and_mirrored(self):
        for field in one_field_each(SMALL_SIDES + [(30,), (5, 6), (3, 2, 5)]):
            sides = field[0]
            ways = range(len(sides))
            for order in itertools.permutations(ways):
                self.carried(field, exchanged(field, order), lambda box: box_exchanged(sides, box, order))
            for many in range(len(sides) + 1):
                for some in itertools.combinations(ways, many):
                    self.carried(field, mirrored(field, some), lambda box: box_mirrored(sides, box, some))

    def test_stretched(self):
        for field in one_field_each([(1,), (4,), (2, 3), (1, 2), (2, 1, 3), (2, 2, 2)]):
            sides = field[0]
            for factors in itertools.product((1, 2), repeat=len(sides)):
                turned = stretched(field, factors)
                often = 1
                for factor in factors:
                    often *= factor
                for box in boxes_for(sides):
                    total, least, greatest = self.answers(field, box)
                    turned_box = box_stretched(sides, box, factors)
                    self.assertEqual(self.answers(turned, turned_box), (total * often, least, greatest))

    def test_cut(self):
        for field in one_field_each([(5,), (2, 3), (2, 2, 2), (30,), (5, 6), (3, 3, 4)]):
            for box in boxes_for(field[0], 5):
                part = cut(field, box)
                for inner in boxes_for(part[0], 5)[:8]:
                    moved = tuple(tuple(n + a for n, a in zip(place, box[0])) for place in inner)
                    self.assertEqual(self.answers(part, inner), self.answers(field, moved))

    def test_windows_and_lines(self):
        for field in one_field_each([(5,), (2, 3), (2, 2, 2), (30,), (5, 6), (3, 3, 4)]):
            sides = field[0]
            for low, high in boxes_for(sides, 5):
                sizes = tuple(b - a + 1 for a, b in zip(low, high))
                for place, least, where, greatest, there in windows(field, sizes):
                    box = (place, tuple(n + size - 1 for n, size in zip(place, sizes)))
                    self.assertEqual(by_powers(sides, powers_of(field), box), (least, greatest))
                if len(sides) == 1:
                    firsts = [window[2][0] for window in windows(field, sizes)]
                    self.assertEqual([places[0] for places in line(list(field[1]), sizes[0])][sizes[0] - 1:], firsts)


class LetBy(unittest.TestCase):
    """Every table of small numbers is shown to the looks; what is let by answers truly."""

    def test_running(self):
        for sides, cells in [((3,), (1, -1, 2)), ((1, 3), (0, 1, -2)), ((2, 2), (1, 0, -1, 2))]:
            field = (sides, cells)
            let_by = [list(numbers) for numbers in itertools.product(range(-3, 4), repeat=len(cells))
                      if holds_running(field, list(numbers))]
            self.assertEqual(len(let_by), 1)
            for box in all_boxes(sides):
                self.assertEqual(sum_by_running(sides, let_by[0], box), sum_in(field, box))

    def test_halves(self):
        field = ((2,), (0, 2))
        boxes = [entry[0] for entry in halves_of(field)]
        let_by = []
        for numbers in itertools.product(range(3), repeat=9):
            table = [(box, numbers[3 * k:3 * k + 3]) for k, box in enumerate(boxes)]
            if holds_halves(field, table):
                let_by.append(table)
        self.assertEqual(len(let_by), 1)
        for box in all_boxes((2,)):
            awaited = (sum_in(field, box), least_in(field, box), greatest_in(field, box))
            self.assertEqual(by_halves((2,), let_by[0], box), awaited)

    def test_powers(self):
        field = ((2,), (1, -1))
        pieces = [entry[:2] for entry in powers_of(field)]
        let_by = []
        for numbers in itertools.product(range(-2, 3), repeat=6):
            table = [piece + numbers[2 * k:2 * k + 2] for k, piece in enumerate(pieces)]
            if holds_powers(field, table):
                let_by.append(table)
        self.assertEqual(len(let_by), 1)
        for box in all_boxes((2,)):
            self.assertEqual(by_powers((2,), let_by[0], box), (least_in(field, box), greatest_in(field, box)))


    def test_entries(self):
        row = [0, 1]
        let_by = []
        singles = [(number, number, number, waits) for number in range(-3, 4) for waits in (0, 1)]
        wholes = list(itertools.product((0, 1, 2), (-1, 0, 1), (0, 1, 2), (-2, -1, 0, 1, 2)))
        for first, whole, second in itertools.product(singles, wholes, singles):
            entries = [((0, 0), first), ((0, 1), whole), ((1, 1), second)]
            if holds_entries(row, entries):
                let_by.append(entries)
        self.assertEqual([entries[1][1][3] for entries in let_by], [2, 1, 0, -1, -2])
        for entries in let_by:
            for low, high in [(0, 0), (0, 1), (1, 1)]:
                self.assertEqual(by_entries(entries, low, high), plain_told(row[low:high + 1]))


    def test_papers_of_bests(self):
        for sides, cells in [((3,), (1, -1, 2)), ((2, 2), (-1, 1, 0, -1))]:
            field = (sides, cells)
            most = max(sum_in(field, box) for box in all_boxes(sides))
            bases = all_boxes(sides[:-1])
            let_by = []
            for numbers in itertools.product(range(-2, 3), repeat=len(bases) * sides[-1]):
                paper = [(base, numbers[k * sides[-1]:(k + 1) * sides[-1]]) for k, base in enumerate(bases)]
                let_by.extend(number for number in (-1, 0, 1, 2, 3) if holds_bests(field, number, paper))
            self.assertEqual(min(let_by), most)


class ToldOfItself(unittest.TestCase):
    def test_nothing_told_is_kept_within(self):
        sides = (2, 3)
        field = (sides, (4, -1, 7, 0, 5, 2))
        box = ((0, 1), (1, 2))
        asked = [
            lambda: running_of(field), lambda: touched_by(sides, (0, 1)), lambda: halves_of(field),
            lambda: box_cover(sides, box), lambda: changed_halves(sides, halves_of(field), (1, 1), 9)[0],
            lambda: changed_halves(sides, halves_of(field), (1, 1), 9)[1], lambda: powers_of(field),
            lambda: met_by(sides, box), lambda: all_boxes(sides), lambda: steps_of(field),
            lambda: lifted(sides, steps_of(field), box, 2)[0], lambda: lifted(sides, steps_of(field), box, 2)[1],
            lambda: moments_of(sides, steps_of(field)), lambda: moments_of(sides, steps_of(field))[3],
            lambda: worths(list(field[1])), lambda: parted(list(field[1])),
            lambda: so_manieth(list(field[1]), 1, 4, 2)[1], lambda: best_of(field)[2],
            lambda: all_of(field, 7), lambda: windows(field, (1, 2)), lambda: line(list(field[1]), 3),
        ]
        for ask in asked:
            told = ask()
            kept = list(told)
            told.reverse()
            told[0] = None
            told.append(None)
            self.assertEqual(ask(), kept)
