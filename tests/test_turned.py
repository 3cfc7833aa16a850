"""Fields and boxes turned about: point 26."""

import copy
import itertools
import unittest

from boxsums.errors import BoxError, NoBox, NoField, NoTurn
from boxsums.fields import is_field
from boxsums.plain import cells_in, greatest_in, least_in, sum_in
from boxsums.turned import (box_exchanged, box_mirrored, box_stretched, cut, exchanged, mirrored, stretched)
from tests.samples import (GREAT_SIDES, SMALL_SIDES, THIRTY, boxes_for, deep, fields_for, lies_in, odd_things,
                           one_field_each, plain_cells, plain_places, plain_told, things_that_are_no_box,
                           wrong_numbers)

GREAT = [(120,), (1, 120), (10, 12), (40, 3), (1, 120, 1), (4, 5, 6), (2, 3, 20)]
ENOUGH = [(1,), (2,), (5,), (1, 1), (1, 4), (2, 3), (3, 2), (1, 1, 1), (2, 1, 3), (2, 2, 2)]


def orders(sides):
    return list(itertools.permutations(range(len(sides))))


def sets_of_ways(sides):
    ways = range(len(sides))
    return [some for many in range(len(sides) + 1) for some in itertools.combinations(ways, many)]


def some_factors(sides, most=120):
    """Factors of 1 to 4 and some greater ones, as far as no more cells come of them."""
    found = []
    for factors in itertools.product([1, 2, 3, 4, 10, 24, 60, 120], repeat=len(sides)):
        many = 1
        for side, factor in zip(sides, factors):
            many *= side * factor
        if many <= most:
            found.append(factors)
    return found


def by_places(field):
    return dict(zip(plain_places(field[0]), field[1]))


def put_at(places, numbers):
    """The numbers, each at its place: what was number k is number places[k]."""
    told = [None] * len(numbers)
    for k, place in enumerate(places):
        told[place] = numbers[k]
    return tuple(told)


def mirror(sides, place, some):
    return tuple(side - 1 - number if way in some else number
                 for way, (side, number) in enumerate(zip(sides, place)))


def box_around(places):
    """The box whose ends are the least and the greatest numbers of the places, way by way."""
    ways = list(zip(*places))
    return (tuple(min(way) for way in ways), tuple(max(way) for way in ways))


class Turned(unittest.TestCase):
    def same(self, field, awaited):
        """The field has just the cells that a dict tells by places."""
        self.assertIs(is_field(field), True)
        self.assertEqual([type(part) for part in (field,) + field], [tuple] * 3)
        self.assertEqual(by_places(field), awaited)
        self.assertEqual(plain_places(field[0]), sorted(awaited))

    def test_exchanged(self):
        for field in fields_for(SMALL_SIDES) + one_field_each(GREAT_SIDES):
            for order in orders(field[0]):
                told = exchanged(field, order)
                self.assertEqual(told[0], put_at(order, field[0]))
                self.same(told, {put_at(order, place): cell for place, cell in by_places(field).items()})
                back = tuple(order.index(way) for way in range(len(order)))
                self.assertEqual(exchanged(told, back), field)

    def test_mirrored(self):
        for field in fields_for(SMALL_SIDES) + one_field_each(GREAT_SIDES):
            for some in sets_of_ways(field[0]):
                told = mirrored(field, some)
                self.assertEqual(told[0], field[0])
                self.same(told, {mirror(field[0], place, some): cell for place, cell in by_places(field).items()})
                self.assertEqual(mirrored(told, some), field)

    def test_stretched(self):
        for field in one_field_each(SMALL_SIDES + GREAT_SIDES) + fields_for(ENOUGH):
            for factors in some_factors(field[0])[:40]:
                told = stretched(field, factors)
                self.assertEqual(told[0], tuple(side * factor for side, factor in zip(field[0], factors)))
                awaited = {}
                for place, cell in by_places(field).items():
                    for more in itertools.product(*[range(factor) for factor in factors]):
                        awaited[tuple(p * f + m for p, f, m in zip(place, factors, more))] = cell
                self.same(told, awaited)

    def test_stretched_by_ones_is_the_field_itself(self):
        for field in one_field_each(SMALL_SIDES + GREAT_SIDES):
            self.assertEqual(stretched(field, (1,) * len(field[0])), field)

    def test_just_as_many_cells_as_may_be_and_one_more(self):
        for sides, factors, beyond in [((1,), (120,), (121,)), ((40,), (3,), (4,)), ((120,), (1,), (2,)),
                                       ((2, 3), (20, 1), (21, 1)), ((2, 3), (2, 10), (3, 7)),
                                       ((1, 1, 1), (4, 5, 6), (11, 11, 1)), ((2, 1, 3), (2, 5, 2), (1, 7, 3))]:
            many = len(plain_places(sides))
            field = (sides, tuple(range(many)))
            told = stretched(field, factors)
            self.assertEqual(len(told[1]), 120)
            self.same(told, by_places(told))
            with self.assertRaises(NoField):
                stretched(field, beyond)
        for factors in [(THIRTY, 1, 1), (1, THIRTY, 1), (1, 1, THIRTY), (THIRTY,) * 3]:
            with self.assertRaises(NoField):
                stretched(((1, 1, 1), (0,)), factors)

    def test_cut(self):
        for field in fields_for(SMALL_SIDES) + one_field_each(GREAT_SIDES):
            for box in boxes_for(field[0]):
                low, high = box
                told = cut(field, box)
                self.assertEqual(told[0], tuple(b - a + 1 for a, b in zip(low, high)))
                self.same(told, {tuple(p - a for p, a in zip(place, low)): cell
                                 for place, cell in by_places(field).items() if lies_in(place, box)})
            self.assertEqual(cut(field, (plain_places(field[0])[0], plain_places(field[0])[-1])), field)

    def test_by_hand(self):
        field = ((2, 3), (4, -1, 7, 0, 5, 2))
        self.assertEqual(exchanged(field, (1, 0)), ((3, 2), (4, 0, -1, 5, 7, 2)))
        self.assertEqual(exchanged(((1, 2, 3), (1, 2, 3, 4, 5, 6)), (1, 2, 0)), ((3, 1, 2), (1, 4, 2, 5, 3, 6)))
        self.assertEqual(mirrored(field, (1,)), ((2, 3), (7, -1, 4, 2, 5, 0)))
        self.assertEqual(mirrored(field, (0,)), ((2, 3), (0, 5, 2, 4, -1, 7)))
        self.assertEqual(mirrored(field, (0, 1)), ((2, 3), (2, 5, 0, 7, -1, 4)))
        self.assertEqual(stretched(((2, 2), (1, 2, 3, 4)), (1, 2)), ((2, 4), (1, 1, 2, 2, 3, 3, 4, 4)))
        self.assertEqual(cut(field, ((0, 1), (1, 2))), ((2, 2), (-1, 7, 5, 2)))
        self.assertEqual(box_exchanged((1, 2, 3), ((0, 0, 1), (0, 1, 2)), (1, 2, 0)), ((1, 0, 0), (2, 0, 1)))
        self.assertEqual(box_mirrored((2, 3), ((0, 0), (1, 1)), (1,)), ((0, 1), (1, 2)))
        self.assertEqual(box_stretched((2, 3), ((0, 1), (1, 1)), (3, 4)), ((0, 4), (5, 7)))


class BoxesTurned(unittest.TestCase):
    def same(self, box, awaited):
        self.assertEqual([type(part) for part in (box,) + box], [tuple] * 3)
        self.assertEqual(box, awaited)

    def carried(self, field, box, turned, turned_box):
        """The turned box has, in the turned field, the cells of the box."""
        cells = plain_cells(field, box)
        self.assertEqual(sorted(cells_in(turned, turned_box)), sorted(cells))
        told = (sum_in(turned, turned_box), least_in(turned, turned_box), greatest_in(turned, turned_box))
        self.assertEqual(told, plain_told(cells))

    def test_exchanged(self):
        for field in one_field_each(SMALL_SIDES + GREAT):
            sides = field[0]
            for order in orders(sides):
                turned = exchanged(field, order)
                for box in boxes_for(sides, 12):
                    told = box_exchanged(sides, box, order)
                    self.same(told, (put_at(order, box[0]), put_at(order, box[1])))
                    self.carried(field, box, turned, told)
                    back = tuple(order.index(way) for way in range(len(order)))
                    self.assertEqual(box_exchanged(turned[0], told, back), box)

    def test_mirrored(self):
        for field in one_field_each(SMALL_SIDES + GREAT):
            sides = field[0]
            for some in sets_of_ways(sides):
                turned = mirrored(field, some)
                for box in boxes_for(sides, 12):
                    told = box_mirrored(sides, box, some)
                    self.same(told, box_around([mirror(sides, place, some) for place in box]))
                    self.carried(field, box, turned, told)
                    self.assertEqual(box_mirrored(sides, told, some), box)

    def test_stretched(self):
        for field in one_field_each(ENOUGH):
            sides = field[0]
            for factors in some_factors(sides)[:20]:
                turned = stretched(field, factors)
                often = 1
                for factor in factors:
                    often *= factor
                for box in boxes_for(sides, 12):
                    told = box_stretched(sides, box, factors)
                    self.same(told, (tuple(a * f for a, f in zip(box[0], factors)),
                                     tuple(b * f + f - 1 for b, f in zip(box[1], factors))))
                    total, least, greatest = plain_told(plain_cells(field, box))
                    self.assertEqual(sum_in(turned, told), total * often)
                    self.assertEqual((least_in(turned, told), greatest_in(turned, told)), (least, greatest))

    def test_of_a_stretched_box_no_count_of_cells_is_asked(self):
        self.assertEqual(box_stretched((120,), ((1,), (119,)), (THIRTY,)), ((THIRTY,), (120 * THIRTY - 1,)))
        self.assertEqual(box_stretched((10, 12), ((0, 3), (9, 11)), (2, 5)), ((0, 15), (19, 59)))
        self.assertEqual(box_stretched((4, 5, 6), ((1, 1, 1), (3, 4, 5)), (7, 1, 100)), ((7, 1, 100), (27, 4, 599)))


def no_orders(sides):
    """Things that are no order of so many ways, made anew at each call."""
    many = len(sides)
    right = tuple(range(many))
    wrong = [list(right), right + (many,), right + (0,), right[1:], right[:-1], (), (right,), str(right), None,
             dict(enumerate(right)), many, tuple(str(way) for way in right), right * 2]
    for k in right:
        for number in [many, -1, k + 1, k - 1, k - many, THIRTY, -THIRTY] + wrong_numbers():
            wrong.append(right[:k] + (number,) + right[k + 1:])
    return wrong


def no_ways(sides):
    """Things that are no rising ways of so many, made anew at each call."""
    many = len(sides)
    every = tuple(range(many))
    wrong = [list(every), [], {}, dict.fromkeys(every), str(every), "", None, 0, (every,), every + (many,),
             every + (0,), every + every, (many,), (-1,), (-many,), (0, 0), (0,) * 3, (THIRTY,), (-THIRTY,), (0, many),
             (-1, 0), (many - 1, many - 1)]
    if many > 1:
        wrong.extend([every[::-1], (1, 0), (0, 1, 1), (0, 0, 1), (0, 1, 0)])
    for k in every:
        wrong.extend(every[:k] + (number,) + every[k + 1:] for number in wrong_numbers())
        wrong.extend((number,) for number in wrong_numbers())
    return wrong


def no_factors(sides):
    """Things that are no factors for so many ways, made anew at each call."""
    many = len(sides)
    right = (1,) * many
    wrong = [list(right), right + (1,), right[1:], (), (right,), str(right), None, 1, dict(enumerate(right)),
             right * 2 + (1,), tuple("1" for way in right)]
    for k in range(many):
        for number in [0, -1, -2, -THIRTY] + wrong_numbers():
            wrong.extend([right[:k] + (number,) + right[k + 1:], (2,) * k + (number,) + (2,) * (many - k - 1)])
    return wrong


def of_every_kind(rights):
    """Odd things but those that are right."""
    things = odd_things() + [deep(lambda thing: (thing, 0)), deep(lambda thing: (1, thing))]
    return [thing for thing in things if repr(thing) not in [repr(right) for right in rights]]


class Refused(unittest.TestCase):
    def refused(self, error, ask, *given):
        kept = copy.deepcopy(given)
        with self.assertRaises(error, msg=repr(given)) as caught:
            ask(*given)
        self.assertIsInstance(caught.exception, BoxError)
        self.assertEqual(given, kept)

    def no_turn(self, of_field, of_box, field, thing):
        """Refused with NoTurn, whatever the box, and however many cells would come."""
        sides = field[0]
        first = tuple(0 for side in sides)
        self.refused(NoTurn, of_field, field, thing)
        self.refused(NoTurn, of_box, sides, (first, first), thing)
        for no_box in [None, (first,), (first, sides), [first, first], 0, thing]:
            self.refused(NoTurn, of_box, sides, no_box, thing)

    def test_no_order(self):
        for field in one_field_each(ENOUGH + [(120,), (4, 5, 6)]):
            for thing in no_orders(field[0]) + of_every_kind(orders(field[0])):
                self.no_turn(exchanged, box_exchanged, field, thing)

    def test_no_ways(self):
        for field in one_field_each(ENOUGH + [(120,), (4, 5, 6)]):
            for thing in no_ways(field[0]) + of_every_kind(sets_of_ways(field[0])):
                self.no_turn(mirrored, box_mirrored, field, thing)

    def test_no_factors(self):
        for field in one_field_each(ENOUGH + [(120,), (4, 5, 6)]):
            many = len(field[0])
            rights = list(itertools.product((1, 2, THIRTY), repeat=many))
            for thing in no_factors(field[0]) + of_every_kind(rights):
                self.no_turn(stretched, box_stretched, field, thing)

    def test_a_wrong_factor_goes_ahead_of_too_many_cells(self):
        field = ((10, 12), tuple(range(120)))
        for factors in [(THIRTY, 0), (0, THIRTY), (2, True), (2, None), (THIRTY,), (2, 2, 2), [2, 2]]:
            self.refused(NoTurn, stretched, field, factors)
        self.refused(NoField, stretched, field, (2, 1))
        self.refused(NoField, stretched, field, (1, 2))

    def test_no_box(self):
        for sides in ENOUGH + [(120,), (10, 12), (4, 5, 6)]:
            field = (sides, tuple(range(len(plain_places(sides)))))
            many = len(sides)
            boxes = [repr(box) for box in boxes_for(sides)]
            things = things_that_are_no_box(sides) + [t for t in odd_things() if repr(t) not in boxes]
            for thing in things:
                self.refused(NoBox, cut, field, thing)
                self.refused(NoBox, box_exchanged, sides, thing, tuple(range(many)))
                self.refused(NoBox, box_mirrored, sides, thing, ())
                self.refused(NoBox, box_mirrored, sides, thing, (many - 1,))
                self.refused(NoBox, box_stretched, sides, thing, (1,) * many)
                self.refused(NoBox, box_stretched, sides, thing, (THIRTY,) * many)

    def test_a_box_of_the_turned_sides_is_no_box(self):
        self.refused(NoBox, box_exchanged, (2, 3), ((0, 0), (2, 1)), (1, 0))
        self.refused(NoBox, box_stretched, (2, 3), ((0, 0), (3, 2)), (2, 1))
