"""The box of greatest sum and papers of bests: points 21 and 22."""

import copy
import itertools
import unittest

from boxsums.bests import best_of, holds_bests
from tests.samples import (GREAT_SIDES, SMALL_SIDES, THIRTY, cell_lists, fields_for, odd_things, one_field_each,
                           plain_boxes, plain_cells, plain_places, some_indexes, spoilt_parts, with_cell,
                           wrong_numbers)

FORTY = 10 ** 40 - 1
GREAT = [(120,), (1, 120), (10, 12), (2, 60), (1, 1, 120), (4, 5, 6), (2, 3, 20)]


def plain_bases(sides):
    return plain_boxes(sides[:-1])


def plain_sums(field, base):
    return [sum(plain_cells(field, (base[0] + (j,), base[1] + (j,)))) for j in range(field[0][-1])]


def plain_paper(field):
    """The paper of least numbers: at each j the greatest sum of the boxes over the base that end there."""
    found = []
    for base in plain_bases(field[0]):
        sums = plain_sums(field, base)
        found.append((base, tuple(max(sum(sums[i:j + 1]) for i in range(j + 1)) for j in range(len(sums)))))
    return found


def greatest_of(paper):
    return max(max(bests) for base, bests in paper)


def greater_papers(field):
    """Papers that hold too: each line raised at one j, and what is behind put so that it fits."""
    right = plain_paper(field)
    for turn, more in enumerate((1, 5, THIRTY, FORTY)):
        paper = []
        for base, bests in right:
            sums = plain_sums(field, base)
            raised = list(bests)
            start = turn % len(sums)
            raised[start] += more
            for j in range(start + 1, len(sums)):
                raised[j] = max(raised[j], sums[j] + raised[j - 1]) + turn % 2
            paper.append((base, tuple(raised)))
        yield paper


def with_numbers(paper, index, bests):
    return paper[:index] + [(paper[index][0], bests)] + paper[index + 1:]


class Best(unittest.TestCase):
    def right(self, field):
        told = best_of(field)
        self.assertIs(type(told), tuple)
        total, box, paper = told
        sums = [(sum(plain_cells(field, other)), other) for other in plain_boxes(field[0])]
        greatest = max(one for one, other in sums)
        self.assertEqual(total, greatest, field)
        self.assertEqual(box, min(other for one, other in sums if one == greatest), field)
        self.assertEqual([type(part) for part in (box,) + box], [tuple, tuple, tuple])
        self.shows(field, total, paper)

    def shows(self, field, total, paper):
        self.assertIs(holds_bests(field, total, paper), True, field)
        self.assertIs(type(paper), list)
        self.assertEqual([base for base, bests in paper], plain_bases(field[0]))
        for base, bests in paper:
            self.assertIs(type(bests), tuple)
            for j, one in enumerate(plain_sums(field, base)):
                self.assertGreaterEqual(bests[j], one)
                if j > 0:
                    self.assertGreaterEqual(bests[j], one + bests[j - 1])
                self.assertLessEqual(bests[j], total)

    def test_small_fields(self):
        for field in fields_for(SMALL_SIDES):
            self.right(field)

    def test_all_fields_of_few_cells_and_numbers(self):
        for sides, many in [((4,), 4), ((2, 2), 4), ((1, 3), 3), ((3, 1), 3), ((2, 1, 2), 4)]:
            for cells in itertools.product((-1, 0, 1), repeat=many):
                self.right((sides, cells))

    def test_great_fields(self):
        for field in one_field_each([(10, 12), (4, 5, 6), (30,), (1, 40), (40, 1), (3, 13), (2, 3, 5)]):
            self.right(field)

    def test_fields_of_one_long_way(self):
        for sides in GREAT_SIDES:
            for cells in cell_lists(sides)[:2]:
                field = (sides, tuple(cells))
                total, box, paper = best_of(field)
                self.assertEqual(total, sum(plain_cells(field, box)))
                self.assertIs(holds_bests(field, total, paper), True)
                self.assertIs(holds_bests(field, total - 1, paper), False)

    def test_by_hand(self):
        self.assertEqual(best_of(((1,), (-4,)))[:2], (-4, ((0,), (0,))))
        self.assertEqual(best_of(((5,), (2, -3, 4, -1, 2)))[:2], (5, ((2,), (4,))))
        self.assertEqual(best_of(((3,), (-2, -1, -1)))[:2], (-1, ((1,), (1,))))
        self.assertEqual(best_of(((2, 2), (-5, -5, -5, -5)))[:2], (-5, ((0, 0), (0, 0))))
        self.assertEqual(best_of(((2, 2), (0, 0, 0, 0)))[:2], (0, ((0, 0), (0, 0))))
        self.assertEqual(best_of(((3,), (0, 5, 0)))[:2], (5, ((0,), (1,))))
        self.assertEqual(best_of(((2, 2), (0, 1, 1, 0)))[:2], (2, ((0, 0), (1, 1))))
        self.assertEqual(best_of(((2, 2), (7, 7, 7, 7)))[:2], (28, ((0, 0), (1, 1))))

    def test_told_papers_are_the_askers_own(self):
        field = ((3,), (2, -3, 4))
        told = best_of(field)
        told[2].clear()
        later = best_of(field)
        self.assertEqual(later[:2], (4, ((2,), (2,))))
        self.assertIs(holds_bests(field, 4, later[2]), True)


class Look(unittest.TestCase):
    def holds(self, field, paper):
        greatest = greatest_of(paper)
        kept = list(paper)
        for number in (greatest, greatest + 1, FORTY * 3 + abs(greatest)):
            self.assertIs(holds_bests(field, number, paper), True, (field, paper))
        for number in (greatest - 1, min(min(bests) for base, bests in paper) - 1, -FORTY * 3 - abs(greatest)):
            self.assertIs(holds_bests(field, number, paper), False, (field, paper))
        self.assertEqual(paper, kept)

    def test_papers_that_hold(self):
        for field in fields_for(SMALL_SIDES) + one_field_each(GREAT):
            self.holds(field, plain_paper(field))

    def test_papers_of_greater_numbers(self):
        for field in one_field_each(SMALL_SIDES) + one_field_each([(30,), (5, 6), (3, 2, 5)]):
            for paper in greater_papers(field):
                self.holds(field, paper)

    def test_by_hand(self):
        field = ((3,), (2, -3, 4))
        base = ((), ())
        self.assertIs(holds_bests(field, 4, [(base, (2, -1, 4))]), True)
        self.assertIs(holds_bests(field, 3, [(base, (2, -1, 4))]), False)
        self.assertIs(holds_bests(field, 5, [(base, (3, 0, 5))]), True)
        self.assertIs(holds_bests(field, 5, [(base, (3, 0, 4))]), True)
        self.assertIs(holds_bests(field, 5, [(base, (4, 0, 4))]), False)
        self.assertIs(holds_bests(field, 9, [(base, (1, 0, 4))]), False)
        self.assertIs(holds_bests(field, 9, [(base, (2, -3, 4))]), False)
        self.assertIs(holds_bests(field, 9, [(base, (2, -1, 3))]), False)
        self.assertIs(holds_bests(((2,), (-3, -2)), -2, [(base, (-3, -2))]), True)
        self.assertIs(holds_bests(((2,), (-3, -2)), -2, [(base, (-3, -5))]), False)

    def test_a_number_too_small_at_one_place(self):
        for field in one_field_each(SMALL_SIDES + [(30,), (5, 6), (3, 2, 5)]):
            for paper in [plain_paper(field)] + list(greater_papers(field))[:1]:
                least = plain_paper(field)
                for index in some_indexes(len(paper), 12):
                    for j in range(field[0][-1]):
                        bests = paper[index][1]
                        small = bests[:j] + (least[index][1][j] - 1,) + bests[j + 1:]
                        self.assertIs(holds_bests(field, FORTY * 9, with_numbers(paper, index, small)), False)

    def test_a_number_too_great_at_one_place(self):
        for field in one_field_each([(1,), (4,), (2, 3), (2, 2, 2), (1, 1)]):
            paper = plain_paper(field)
            greatest = greatest_of(paper)
            for index, (base, bests) in enumerate(paper):
                for j in range(len(bests)):
                    great = bests[:j] + (greatest + 1,) + bests[j + 1:]
                    self.assertIs(holds_bests(field, greatest, with_numbers(paper, index, great)), False)

    def test_every_paper_of_small_numbers(self):
        for sides, cells in [((3,), (1, -1, 1)), ((1, 2), (-1, 1)), ((2, 1), (1, -2))]:
            field = (sides, cells)
            bases = plain_bases(sides)
            for numbers in itertools.product(range(-3, 4), repeat=len(bases) * sides[-1]):
                paper = [(base, numbers[k * sides[-1]:(k + 1) * sides[-1]]) for k, base in enumerate(bases)]
                for number in (-1, 0, 1, 2):
                    right = all(n <= number for n in numbers)
                    for base, bests in paper:
                        sums = plain_sums(field, base)
                        right = right and all(bests[j] >= sums[j] for j in range(len(sums)))
                        right = right and all(bests[j] >= sums[j] + bests[j - 1] for j in range(1, len(sums)))
                    self.assertIs(holds_bests(field, number, paper), right, (field, number, paper))

    def test_papers_of_other_fields(self):
        for field in one_field_each(SMALL_SIDES + [(120,), (10, 12)]):
            paper = plain_paper(field)
            for index in some_indexes(len(field[1]), 4):
                other = with_cell(field, plain_places(field[0])[index], field[1][index] + 2 * THIRTY * 120)
                self.assertIs(holds_bests(other, FORTY * 9, paper), False, (field, index))
        self.assertIs(holds_bests(((2, 3), (0,) * 6), 0, plain_paper(((3, 2), (0,) * 6))), False)

    def test_spoilt_papers(self):
        for field in one_field_each([(1,), (2,), (3,), (1, 1), (2, 1), (1, 2), (2, 2), (3, 2), (1, 1, 1), (2, 2, 2)]):
            paper = plain_paper(field)
            number = FORTY * 9
            self.assertIs(holds_bests(field, number, paper), True)
            things = [tuple(paper), dict(paper), dict(enumerate(paper)), [paper], [tuple(paper)], [], paper[1:],
                      paper[:-1], paper * 2, paper + [None], paper + paper[-1:], [None] * len(paper), repr(paper)]
            for index in some_indexes(len(paper), 4):
                ahead, (base, bests), behind = paper[:index], paper[index], paper[index + 1:]
                things.extend([ahead + behind, ahead + [paper[index]] * 2 + behind])
                for other in range(len(paper)):
                    if other != index:
                        exchanged = list(paper)
                        exchanged[index], exchanged[other] = exchanged[other], exchanged[index]
                        things.extend([exchanged, ahead + [paper[other]] + behind])
                things.extend(ahead + [(other, bests)] + behind for other in spoilt_parts(base))
                things.extend(ahead + [(base, other)] + behind for other in self.wrong_bests(bests))
                things.extend(ahead + [other] + behind for other in
                              [list(paper[index]), (base, bests, bests), (base,), (bests, base), (base,) + bests,
                               {base: bests}, None, True, "", (), [], {}])
            for thing in things:
                if repr(thing) != repr(paper):
                    self.assertIs(holds_bests(field, number, thing), False, (field, thing))

    def wrong_bests(self, bests):
        others = [list(bests), dict(enumerate(bests)), bests + (bests[-1] + THIRTY * 200,), bests + (0,), bests[1:],
                  bests[:-1], None, True, 0, "a text", (bests,), {}, []]
        for j in range(len(bests)):
            others.extend(bests[:j] + (wrong,) + bests[j + 1:] for wrong in wrong_numbers())
        return others

    def test_truths_for_numbers(self):
        self.assertIs(holds_bests(((1,), (1,)), 1, [(((), ()), (True,))]), False)
        self.assertIs(holds_bests(((1,), (0,)), 1, [(((), ()), (False,))]), False)
        self.assertIs(holds_bests(((1, 1), (0,)), 1, [(((False,), (0,)), (0,))]), False)
        self.assertIs(holds_bests(((2, 1), (0, 0)), 0, [(((0,), (0,)), (0,)), (((0,), (True,)), (0,)),
                                                        (((1,), (1,)), (0,))]), False)

    def test_things_of_every_kind(self):
        for field in one_field_each([(1,), (2,), (1, 1), (2, 1), (1, 1, 1), (1, 2, 1)]) + [((1,), (0,)), ((1,), (1,))]:
            many = len(plain_bases(field[0]))
            right = plain_paper(field)
            for thing in odd_things():
                kept = copy.deepcopy(thing)
                for shown in [thing, [thing] * many, [(thing, thing)] * many, [(thing, right[0][1])] + right[1:]]:
                    if repr(shown) != repr(right):
                        self.assertIs(holds_bests(field, THIRTY * 200, shown), False, (field, shown))
                self.assertEqual(thing, kept)
