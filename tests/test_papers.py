"""Papers for one box: points 29 and 30."""

import copy
import itertools
import random
import unittest

from boxsums.errors import BoxError, NoBox
from boxsums.papers import holds_paper, paper_for, renewed
from tests.cutting import (any_paper, at_index, claim_anew, cuts_of, inner_papers, no_claims, other_claims, others_of,
                           plain_holds, two_boxes, with_inner)
from tests.samples import (GREAT_SIDES, SMALL_SIDES, THIRTY, boxes_for, deep, fields_for, lies_in, odd_things,
                           one_field_each, plain_cells, plain_places, plain_told, some_indexes,
                           things_that_are_no_box, with_cell)

FORTY = 10 ** 40 - 1
FEW = [(1,), (2,), (5,), (1, 1), (2, 3), (3, 2), (1, 1, 1), (2, 2, 2), (2, 1, 3)]
GREAT = [(120,), (1, 120), (10, 12), (4, 5, 6), (2, 3, 20)]


def by_places(field):
    return dict(zip(plain_places(field[0]), field[1]))


def choosers(chance):
    """Ways to choose a cut: the first, the last, any, the middle one."""
    return [lambda cuts: cuts[0], lambda cuts: cuts[-1], chance.choice, lambda cuts: cuts[len(cuts) // 2]]


def some_papers(field, box, loose):
    chance = random.Random(f"papers {field[0]} {box} {loose}")
    return [any_paper(by_places(field), box, chance, choose, loose) for choose in choosers(chance)]


def all_papers(cells, box):
    """Every paper without slack: all cuts, all ways to go on."""
    cuts = cuts_of(box)
    if not cuts:
        return [("cell", (cells[box[0]],) * 3)]
    found = []
    for way, at in cuts:
        first, second = two_boxes(box, way, at)
        for one, other in itertools.product(all_papers(cells, first), all_papers(cells, second)):
            found.append(("cut", claim_anew(one, other), way, at, one, other))
    return found


class PaperFor(unittest.TestCase):
    def right(self, field, box):
        paper = paper_for(field, box)
        self.assertEqual(paper[1], plain_told(plain_cells(field, box)), (field, box))
        self.assertIs(plain_holds(by_places(field), box, paper), True)
        self.assertIs(holds_paper(field, box, paper), True)

    def test_every_box_of_small_fields(self):
        for field in fields_for(SMALL_SIDES):
            for box in boxes_for(field[0]):
                self.right(field, box)

    def test_great_fields(self):
        for field in one_field_each(GREAT_SIDES):
            for box in boxes_for(field[0], 12):
                self.right(field, box)

    def test_by_hand(self):
        self.assertEqual(paper_for(((2,), (5, -3)), ((1,), (1,))), ("cell", (-3, -3, -3)))
        self.assertEqual(paper_for(((2,), (5, -3)), ((0,), (1,))),
                         ("cut", (2, -3, 5), 0, 0, ("cell", (5, 5, 5)), ("cell", (-3, -3, -3))))

    def test_no_box(self):
        for field in one_field_each(FEW + [(120,), (10, 12), (4, 5, 6)]):
            boxes = [repr(box) for box in boxes_for(field[0])]
            for thing in things_that_are_no_box(field[0]) + odd_things():
                if repr(thing) in boxes:
                    continue
                kept = copy.deepcopy(thing)
                with self.assertRaises(NoBox, msg=repr(thing)) as caught:
                    paper_for(field, thing)
                self.assertIsInstance(caught.exception, BoxError)
                self.assertEqual(thing, kept)

    def test_somewhat_beyond_the_bounds(self):
        field = ((11, 11), tuple(k * k % 17 for k in range(121)))
        self.right(field, ((0, 0), (10, 10)))
        self.right(((3,), (FORTY, -FORTY, 0)), ((0,), (2,)))


class Look(unittest.TestCase):
    def test_papers_cut_in_any_way(self):
        for field in fields_for(FEW) + one_field_each(SMALL_SIDES):
            for box in boxes_for(field[0])[:40]:
                for loose in (False, True):
                    for paper in some_papers(field, box, loose):
                        self.assertIs(holds_paper(field, box, paper), True, (field, box, paper))

    def test_all_papers_of_small_boxes(self):
        for field in one_field_each([(1,), (2,), (5,), (2, 2), (1, 3), (2, 3), (1, 2, 2)]):
            places = plain_places(field[0])
            box = (places[0], places[-1])
            for paper in all_papers(by_places(field), box):
                self.assertIs(holds_paper(field, box, paper), True)
                claim = paper[1]
                for other in other_claims(claim):
                    right = other[0] == claim[0] and other[1] <= claim[1] and other[2] >= claim[2]
                    self.assertIs(holds_paper(field, box, at_index(paper, 1, other)), right)

    def test_great_fields(self):
        for field in one_field_each(GREAT):
            for box in boxes_for(field[0], 5):
                for paper in some_papers(field, box, False)[2:] + some_papers(field, box, True)[2:]:
                    self.assertIs(holds_paper(field, box, paper), True)

    def test_papers_nested_deep(self):
        for sides in [(30,), (31,), (120,), (1, 120), (60, 2)]:
            for field in fields_for([sides])[:5]:
                places = plain_places(sides)
                box = (places[0], places[-1])
                for paper in some_papers(field, box, True)[:2]:
                    self.assertIs(holds_paper(field, box, paper), True)
                    for path, inner_box, inner in list(inner_papers(box, paper))[-3:]:
                        wrong = at_index(inner, 1, (inner[1][0] + 1,) + inner[1][1:])
                        self.assertIs(holds_paper(field, box, with_inner(paper, path, wrong)), False)
                        wrong = with_inner(paper, path, wrong, True)
                        self.assertIs(holds_paper(field, box, wrong), False)

    def test_by_hand(self):
        field, box = ((2,), (5, -3)), ((0,), (1,))
        five, less = ("cell", (5, 5, 5)), ("cell", (-3, -3, -3))
        for paper, right in [
                (("cut", (2, -3, 5), 0, 0, five, less), True),
                (("cut", (2, -9, 9), 0, 0, five, less), True),
                (("cut", (2, -3, 5), 0, 0, ("cell", (5, 0, 5)), less), True),
                (("cut", (2, -3, 5), 0, 0, ("cell", (5, -4, 5)), less), False),
                (("cut", (2, -4, 5), 0, 0, ("cell", (5, -4, 5)), less), True),
                (("cut", (2, -3, 5), 0, 0, five, ("cell", (-3, -3, 6))), False),
                (("cut", (2, -3, 6), 0, 0, five, ("cell", (-3, -3, 6))), True),
                (("cut", (3, -3, 5), 0, 0, five, less), False),
                (("cut", (2, -2, 5), 0, 0, five, less), False),
                (("cut", (2, -3, 4), 0, 0, five, less), False),
                (("cut", (2, -3, 5), 0, 0, less, five), False),
                (("cut", (2, -3, 5), 0, 1, five, less), False),
                (("cut", (2, -3, 5), 0, -1, five, less), False),
                (("cut", (2, -3, 5), 1, 0, five, less), False),
                (("cut", (2, -3, 5), -1, 0, five, less), False),
                (("cut", (2, -3, 5), False, 0, five, less), False),
                (("cut", (2, -3, 5), 0, False, five, less), False),
                (("cut", (3, -3, 6), 0, 0, ("cell", (6, 6, 6)), less), False),
                (("cut", (2, -3, 5), 0, 0, ("cell", (5, 6, 5)), less), False),
                (("cut", (2, -3, 5), 0, 0, ("cell", (5, 5, 4)), less), False),
                (("cell", (2, -3, 5)), False), (five, False), (less, False)]:
            self.assertIs(holds_paper(field, box, paper), right, paper)
        self.assertIs(holds_paper(field, ((0,), (0,)), five), True)
        self.assertIs(holds_paper(field, ((1,), (1,)), five), False)
        self.assertIs(holds_paper(field, ((0,), (0,)), ("cut", (5, 5, 5), 0, 0, five, five)), False)
        self.assertIs(holds_paper(((1,), (1,)), ((0,), (0,)), ("cell", (True, 1, 1))), False)
        self.assertIs(holds_paper(((1,), (1,)), ((0,), (0,)), ("cell", (1, False, 1))), False)

    def looked_at(self, field, box, thing):
        awaited = plain_holds(by_places(field), box, thing)
        self.assertIs(holds_paper(field, box, thing), awaited, (field, box, thing))
        return awaited

    def test_one_thing_other_anywhere(self):
        for field in one_field_each(FEW):
            places = plain_places(field[0])
            for box in [(places[0], places[-1]), (places[0], places[0])]:
                for paper in some_papers(field, box, False)[1:3] + some_papers(field, box, True)[2:3]:
                    answers = [self.looked_at(field, box, with_inner(paper, path, other))
                               for path, inner_box, inner in inner_papers(box, paper)
                               for other in others_of(inner_box, inner)]
                    self.assertEqual(sorted(set(answers)), [False, True])

    def test_one_claim_other_and_all_around_it_put_together_anew(self):
        for field in one_field_each(FEW + [(3, 2, 2), (9,)]):
            places = plain_places(field[0])
            box = (places[0], places[-1])
            for paper in some_papers(field, box, False)[2:] + some_papers(field, box, True)[2:]:
                for path, inner_box, inner in inner_papers(box, paper):
                    for claim in other_claims(inner[1]):
                        other = at_index(inner, 1, claim)
                        self.looked_at(field, box, with_inner(paper, path, other, True))
                        if claim[0] != inner[1][0]:
                            self.assertIs(holds_paper(field, box, with_inner(paper, path, other, True)), False)

    def test_one_thing_other_in_great_papers(self):
        for field in one_field_each(GREAT):
            places = plain_places(field[0])
            box = (places[0], places[-1])
            paper = some_papers(field, box, True)[2]
            inner = list(inner_papers(box, paper))
            for index in some_indexes(len(inner), 6):
                path, inner_box, one = inner[index]
                for claim in list(other_claims(one[1]))[:6] + list(no_claims(one[1]))[::5]:
                    self.looked_at(field, box, with_inner(paper, path, at_index(one, 1, claim)))
                for other in (None, (), "cell", list(one), ("cell", one[1]), ("cut", one[1], 0, 0, one, one)):
                    self.looked_at(field, box, with_inner(paper, path, other))

    def test_papers_of_other_cells_and_boxes(self):
        for field in one_field_each(FEW):
            for box in boxes_for(field[0]):
                paper = some_papers(field, box, True)[2]
                for place in plain_places(field[0]):
                    other = with_cell(field, place, by_places(field)[place] + 1)
                    self.assertIs(holds_paper(other, box, paper), not lies_in(place, box))
                for other in boxes_for(field[0]):
                    self.looked_at(field, other, paper)

    def test_things_of_every_kind(self):
        for field in one_field_each([(1,), (2,), (2, 2), (1, 1, 2)]) + [((1,), (0,)), ((1,), (1,))]:
            places = plain_places(field[0])
            box = (places[0], places[-1])
            right = paper_for(field, box)
            for thing in odd_things():
                kept = copy.deepcopy(thing)
                for shown in [thing, (thing, right[1]), ("cell", thing), ("cell", (thing, thing, thing)), (thing,) * 2,
                              (thing,) * 6, ("cut", right[1], thing, 0, right, right), ("cut", thing, 0, 0, right, right),
                              ("cut", right[1], 0, thing, right, right), ("cut", right[1], 0, 0, thing, thing),
                              ("cut", right[1], 0, 0, ("cell", thing), ("cell", thing)), right[:-1] + (thing,)]:
                    self.looked_at(field, box, shown)
                self.assertEqual(thing, kept)

    def test_things_nested_thirty_deep(self):
        claim = (0, 0, 0)
        cell = ("cell", claim)
        things = [deep(lambda thing: ("cut", claim, 0, 0, thing, thing), cell),
                  deep(lambda thing: ("cut", claim, 0, 0, cell, thing), cell),
                  deep(lambda thing: ("cut", claim, 0, 0, thing, cell), cell),
                  deep(lambda thing: ("cell", thing), claim), deep(lambda thing: (thing, claim), "cell"),
                  deep(lambda thing: ("cut", thing, 0, 0, cell, cell), claim),
                  deep(lambda thing: ["cut", claim, 0, 0, thing, cell], cell)]
        for side in (1, 2, 30, 31, 32, 120):
            field, box = ((side,), (0,) * side), ((0,), (side - 1,))
            for thing in things:
                self.assertIs(holds_paper(field, box, thing), False)
        row = ("cell", claim)
        for at in range(29, -1, -1):
            row = ("cut", claim, 0, at, cell, row)
        self.assertIs(holds_paper(((31,), (0,) * 31), ((0,), (30,)), row), True)
        self.assertIs(holds_paper(((32,), (0,) * 32), ((0,), (31,)), row), False)
        self.assertIs(holds_paper(((30,), (0,) * 30), ((0,), (29,)), row), False)


def plain_renewed(box, paper, place, number):
    """The paper anew and the boxes of those put anew, gone down into both parts of each cut."""
    if not lies_in(place, box):
        return paper, []
    if paper[0] == "cell":
        return ("cell", (number, number, number)), [box]
    first_box, second_box = two_boxes(box, paper[2], paper[3])
    first, some = plain_renewed(first_box, paper[4], place, number)
    second, others = plain_renewed(second_box, paper[5], place, number)
    return ("cut", claim_anew(first, second)) + paper[2:4] + (first, second), [box] + some + others


class Renewed(unittest.TestCase):
    def right(self, field, box, paper, place, number):
        kept = copy.deepcopy(paper)
        told = renewed(box, paper, place, number)
        self.assertEqual((type(told), len(told), type(told[1])), (tuple, 2, list))
        awaited, boxes = plain_renewed(box, paper, place, number)
        self.assertEqual(told[0], awaited, (field, box, paper, place, number))
        self.assertEqual(told[1], sorted(boxes))
        self.assertEqual(len(set(told[1])), len(boxes))
        self.assertEqual(paper, kept)
        behind = with_cell(field, place, number)
        self.assertIs(holds_paper(behind, box, told[0]), True)
        self.assertIs(plain_holds(by_places(behind), box, told[0]), True)
        return behind, told[0]

    def test_every_place_of_small_boxes(self):
        for field in one_field_each(FEW + [(9,), (3, 2, 2)]):
            for box in boxes_for(field[0])[::3]:
                for paper in some_papers(field, box, False)[2:] + some_papers(field, box, True):
                    for place in [one for one in plain_places(field[0]) if lies_in(one, box)]:
                        for number in (0, 4, -THIRTY):
                            self.right(field, box, paper, place, number)

    def test_told_papers_renewed_again_and_again(self):
        for field in one_field_each(SMALL_SIDES + GREAT):
            chance = random.Random(f"renewed {field[0]}")
            for box in boxes_for(field[0], 4)[-2:]:
                places = [one for one in plain_places(field[0]) if lies_in(one, box)]
                now, paper = field, paper_for(field, box)
                for turn in range(6):
                    number = chance.choice([0, 1, -1, 7, THIRTY, -THIRTY, FORTY, -FORTY])
                    now, paper = self.right(now, box, paper, chance.choice(places), number)
                    self.assertEqual(paper[1], plain_told(plain_cells(now, box)))

    def test_there_and_back_again(self):
        for field in one_field_each(FEW + GREAT):
            places = plain_places(field[0])
            box = (places[0], places[-1])
            for paper in some_papers(field, box, False)[2:]:
                for place in places[::7]:
                    there = renewed(box, paper, place, by_places(field)[place] + 5)
                    back = renewed(box, there[0], place, by_places(field)[place])
                    self.assertEqual(back, (paper, there[1]))

    def test_deep_papers(self):
        for sides in [(30,), (120,), (60, 2)]:
            field = fields_for([sides])[0]
            places = plain_places(sides)
            box = (places[0], places[-1])
            for paper in some_papers(field, box, True)[:2]:
                for place in (places[0], places[-1], places[len(places) // 2]):
                    self.right(field, box, paper, place, -FORTY)

    def test_by_hand(self):
        paper = ("cut", (7, -9, 9), 0, 1, ("cut", (3, 0, 5), 0, 0, ("cell", (1, 1, 1)), ("cell", (2, 0, 5))),
                 ("cell", (4, -9, 4)))
        self.assertIs(holds_paper(((3,), (1, 2, 4)), ((0,), (2,)), paper), True)
        fresh = ("cut", (15, -9, 10), 0, 1, ("cut", (11, 1, 10), 0, 0, ("cell", (1, 1, 1)), ("cell", (10, 10, 10))),
                 ("cell", (4, -9, 4)))
        self.assertEqual(renewed(((0,), (2,)), paper, (1,), 10),
                         (fresh, [((0,), (1,)), ((0,), (2,)), ((1,), (1,))]))
        self.assertEqual(renewed(((0,), (2,)), paper, (2,), 4)[1], [((0,), (2,)), ((2,), (2,))])
        self.assertEqual(renewed(((0,), (2,)), paper, (2,), 4)[0][1], (7, 0, 5))
        self.assertEqual(renewed(((5, 6), (5, 6)), ("cell", (2, 1, 3)), (5, 6), -1),
                         (("cell", (-1, -1, -1)), [((5, 6), (5, 6))]))

    def test_told_lists_are_the_askers_own(self):
        paper = paper_for(((3,), (1, 2, 4)), ((0,), (2,)))
        told = renewed(((0,), (2,)), paper, (1,), 10)
        kept = list(told[1])
        told[1].clear()
        self.assertEqual(renewed(((0,), (2,)), paper, (1,), 10)[1], kept)
