"""Every way of keeping answers as the plain cells do, behind all changes, there and back: point 3."""

import random
import unittest

from boxsums.bests import best_of, holds_bests
from boxsums.counted import all_of, how_many_of
from boxsums.desk import Desk
from boxsums.errors import NoBack
from boxsums.fields import all_boxes
from boxsums.keeper import Keeper
from boxsums.looks import by_entries, holds_entries
from boxsums.moments import moments_of, sum_by_moments
from boxsums.papers import holds_paper, paper_for, renewed
from boxsums.plain import greatest_in, least_in, sum_in
from boxsums.powers import by_powers, holds_powers, powers_of
from boxsums.reader import read_box, read_field
from boxsums.running import holds_running, running_of, sum_by_running, touched_by
from boxsums.sought import how_many_less, so_manieth
from boxsums.steps import field_by, lifted, steps_of
from boxsums.tables import by_halves, changed_halves, halves_of, holds_halves
from boxsums.texts import show_box, show_field
from boxsums.turned import cut
from boxsums.windows import windows
from tests.cutting import any_paper
from tests.samples import (SMALL_SIDES, THIRTY, boxes_for, lies_in, one_field_each, plain_boxes, plain_cells,
                           plain_places, plain_told, with_cell)


def whole_box(sides):
    return (plain_places(sides)[0], plain_places(sides)[-1])


class Kept:
    """One field kept in every way; each change is made in each way by its own means."""

    def __init__(self, field, chance):
        self.field = field
        self.sides = field[0]
        self.box = whole_box(self.sides)
        self.halves = halves_of(field)
        self.steps = steps_of(field)
        cells = dict(zip(plain_places(self.sides), field[1]))
        self.papers = [paper_for(field, self.box), any_paper(cells, self.box, chance, chance.choice, True)]
        self.desk = Desk(show_field(field))
        self.keeper = Keeper(list(field[1])) if len(self.sides) == 1 else None

    def change(self, box, change):
        """All cells of a box by a function, one by one, in the ways that know only single cells."""
        for place in plain_places(self.sides):
            if lies_in(place, box):
                number = change(plain_cells(self.field, (place, place))[0])
                self.field = with_cell(self.field, place, number)
                self.halves = changed_halves(self.sides, self.halves, place, number)[0]
                self.papers = [renewed(self.box, paper, place, number)[0] for paper in self.papers]

    def put(self, place, number):
        lacks = number - plain_cells(self.field, (place, place))[0]
        self.steps = lifted(self.sides, self.steps, (place, place), lacks)[0]
        self.change((place, place), lambda cell: number)
        self.desk.say(f"put {','.join(map(str, place))} {number}")
        if self.keeper:
            self.keeper.put(place[0], number)

    def lift(self, box, number):
        self.steps = lifted(self.sides, self.steps, box, number)[0]
        self.change(box, lambda cell: cell + number)
        self.desk.say(f"lift {show_box(box)} {number}")
        if self.keeper:
            self.keeper.lift(box[0][0], box[1][0], number)

    def back(self, field):
        """To the field that was ahead of the last deed."""
        for place, cell in zip(plain_places(self.sides), field[1]):
            lacks = cell - plain_cells(self.field, (place, place))[0]
            self.steps = lifted(self.sides, self.steps, (place, place), lacks)[0]
            if lacks != 0:
                self.change((place, place), lambda other: cell)
        self.desk.say("back")
        if self.keeper:
            self.keeper.back()


class Whole(unittest.TestCase):
    def tables_hold(self, kept):
        field = kept.field
        self.assertEqual(kept.halves, halves_of(field))
        self.assertIs(holds_halves(field, kept.halves), True)
        self.assertIs(holds_running(field, running_of(field)), True)
        self.assertIs(holds_powers(field, powers_of(field)), True)
        self.assertEqual(kept.steps, steps_of(field))
        self.assertEqual(field_by(kept.sides, kept.steps), field)
        self.assertEqual(kept.desk.say("text"), show_field(field))
        for paper in kept.papers:
            self.assertIs(holds_paper(field, kept.box, paper), True)
            self.assertEqual(paper[1][0], sum(field[1]))
            self.assertLessEqual(paper[1][1], min(field[1]))
            self.assertGreaterEqual(paper[1][2], max(field[1]))
        if kept.keeper:
            self.assertEqual(kept.keeper.row(), list(field[1]))
            self.assertIs(holds_entries(list(field[1]), kept.keeper.entries()), True)

    def all_alike(self, kept, most=None):
        field, sides = kept.field, kept.sides
        running, powers, moments = running_of(field), powers_of(field), moments_of(sides, kept.steps)
        total, best, paper = best_of(field)
        self.assertIs(holds_bests(field, total, paper), True)
        self.assertEqual(kept.desk.say("best"), f"{total} {show_box(best)}")
        self.assertEqual(all_of(field, total)[0], best)
        for box in all_boxes(sides)[:most]:
            cells = plain_cells(field, box)
            awaited = plain_told(cells)
            word = show_box(box)
            self.assertEqual((sum_in(field, box), least_in(field, box), greatest_in(field, box)), awaited)
            self.assertEqual((sum_by_running(sides, running, box),) + by_powers(sides, powers, box), awaited)
            self.assertEqual(by_halves(sides, kept.halves, box), awaited)
            self.assertEqual(sum_by_moments(sides, moments, box), awaited[0])
            self.assertEqual(paper_for(field, box)[1], awaited)
            said = [kept.desk.say(f"{asked} {word}") for asked in ("sum", "least", "greatest")]
            self.assertEqual(said, [str(number) for number in awaited])
            self.assertEqual(kept.desk.say(f"nth {word} 0"), str(so_manieth(cells, 0, len(cells) - 1, 0)[0]))
            self.assertEqual(kept.desk.say(f"less {word} 0"), str(how_many_less(cells, 0, len(cells) - 1, 0)))
            part = cut(field, box)
            self.assertEqual(windows(part, part[0])[0][1::2], awaited[1:])
            self.assertIn(box, all_of(field, awaited[0]))
            self.assertLessEqual(awaited[0], total)
            self.assertEqual(read_box(sides, word), box)
            if kept.keeper:
                self.assertEqual(kept.keeper.told(box[0][0], box[1][0]), awaited)
                self.assertEqual(by_entries(kept.keeper.entries(), box[0][0], box[1][0]), awaited)

    def test_small_fields_there_and_back(self):
        for field in one_field_each(SMALL_SIDES):
            sides = field[0]
            chance = random.Random(f"whole {sides}")
            kept = Kept(field, chance)
            past = []
            for turn in range(9):
                self.tables_hold(kept)
                self.all_alike(kept)
                past.append(kept.field)
                number = chance.choice([0, 1, -1, 8, chance.randrange(-99, 100), THIRTY, -THIRTY])
                if turn % 3 == 0:
                    kept.put(chance.choice(plain_places(sides)), number)
                else:
                    kept.lift(chance.choice(plain_boxes(sides)), number)
            while past:
                self.tables_hold(kept)
                self.all_alike(kept, 10)
                kept.back(past.pop())
            self.assertEqual(kept.field, field)
            self.tables_hold(kept)
            self.all_alike(kept)
            self.assertRaises(NoBack, kept.desk.say, "back")
            if kept.keeper:
                self.assertRaises(NoBack, kept.keeper.back)

    def test_great_fields_there_and_back(self):
        for field in one_field_each([(40,), (5, 8), (3, 3, 4)]):
            chance = random.Random(f"whole {field[0]}")
            kept = Kept(field, chance)
            past = []
            for turn in range(4):
                past.append(kept.field)
                kept.lift(chance.choice(boxes_for(field[0], 20)), chance.choice([3, -2, THIRTY]))
                self.tables_hold(kept)
                self.all_alike(kept, 3)
            while past:
                kept.back(past.pop())
                self.tables_hold(kept)
            self.assertEqual(kept.field, field)

    def test_a_change_touches_just_the_told_entries(self):
        for field in one_field_each(SMALL_SIDES + [(5, 6)]):
            sides = field[0]
            places = plain_places(sides)
            for place in places:
                other = with_cell(field, place, plain_cells(field, (place, place))[0] + 3)
                unlike = [p for p, one, two in zip(places, running_of(field), running_of(other)) if one != two]
                self.assertEqual(unlike, touched_by(sides, place))
                table, boxes = changed_halves(sides, halves_of(field), place, plain_cells(other, (place, place))[0])
                unlike = [one[0] for one, two in zip(halves_of(field), table) if one != two]
                self.assertEqual(unlike, boxes)

    def test_what_is_written_is_read_back(self):
        for field in one_field_each(SMALL_SIDES + [(120,), (10, 12), (4, 5, 6)]):
            self.assertEqual(read_field(show_field(field)), field)
            self.assertEqual(Desk(show_field(field)).say("text"), show_field(field))

    def test_all_counts_together_are_all_boxes(self):
        for field in one_field_each(SMALL_SIDES):
            sums = {sum_in(field, box) for box in all_boxes(field[0])}
            self.assertEqual(sum(how_many_of(field, number) for number in sums), len(all_boxes(field[0])))
            desk = Desk(show_field(field))
            for number in sums:
                if abs(number) <= THIRTY:
                    self.assertEqual(desk.say(f"count {number}"), str(how_many_of(field, number)))
