"""The keeper of a row: points 14 to 16."""

import copy
import random
import unittest

from boxsums.errors import BoxError, NoBack
from boxsums.keeper import Keeper
from boxsums.looks import holds_entries
from tests.samples import GREAT_ROWS, SMALL_ROWS, THIRTY, one_row_each, plain_told, rows_for, stretches_asked
from tests.test_halves import plain_cover, plain_stretches
from tests.waiting import PlainKeeper


def numbers_for(chance):
    return chance.choice([0, 1, -1, 5, -7, chance.randrange(-99, 100), THIRTY, -THIRTY,
                          chance.randrange(-THIRTY, THIRTY)])


def some_deeds(length, many):
    """Deeds as tuples: the ends, single cells and the whole first, each said twice now and then."""
    chance = random.Random(f"deeds {length}")
    last = length - 1
    deeds = [("put", 0, 3), ("put", 0, 3), ("put", last, -2), ("lift", 0, last, 4), ("lift", 0, last, 4),
             ("lift", 0, 0, -1), ("lift", last, last, 9), ("lift", 0, last, 0), ("put", last // 2, 0),
             ("lift", last // 2, last, -6), ("lift", 0, last // 2, 0), ("lift", 0, last, -4)]
    while len(deeds) < many:
        if chance.random() < 0.2:
            deeds.append(deeds[-1])
        elif chance.random() < 0.4:
            deeds.append(("put", chance.randrange(length), numbers_for(chance)))
        else:
            low, high = sorted((chance.randrange(length), chance.randrange(length)))
            deeds.append(("lift", low, high, numbers_for(chance)))
    return deeds


def do(keeper, deed):
    return keeper.put(*deed[1:]) if deed[0] == "put" else keeper.lift(*deed[1:])


class Behind(unittest.TestCase):
    def same(self, keeper, plain, most=40):
        row = keeper.row()
        self.assertIs(type(row), list)
        self.assertEqual(row, plain.cells)
        entries = keeper.entries()
        self.assertIs(type(entries), list)
        self.assertEqual(entries, plain.entries())
        self.assertIs(holds_entries(plain.cells, entries), True)
        for low, high in stretches_asked(len(row), most):
            told = keeper.told(low, high)
            self.assertIs(type(told), tuple)
            self.assertEqual(told, plain.told(low, high), (row, low, high))

    def done(self, keeper, plain, deed):
        told = do(keeper, deed)
        self.assertIs(type(told), list)
        self.assertEqual(told, do(plain, deed), deed)

    def test_at_first(self):
        for row in rows_for(SMALL_ROWS) + one_row_each(GREAT_ROWS):
            keeper = Keeper(row)
            self.same(keeper, PlainKeeper(row))
            awaited = [((a, b), plain_told(row[a:b + 1]) + (0,)) for a, b in plain_stretches(0, len(row) - 1)]
            self.assertEqual(keeper.entries(), sorted(awaited))

    def test_deeds_on_small_rows(self):
        for row in rows_for(SMALL_ROWS):
            keeper, plain = Keeper(row), PlainKeeper(row)
            for deed in some_deeds(len(row), 24):
                self.done(keeper, plain, deed)
                self.same(keeper, plain)

    def test_deeds_on_great_rows(self):
        for row in one_row_each(GREAT_ROWS) + rows_for([120]):
            keeper, plain = Keeper(row), PlainKeeper(row)
            for deed in some_deeds(len(row), 30):
                self.done(keeper, plain, deed)
                self.same(keeper, plain, 12)

    def test_every_place_and_every_stretch_of_small_rows(self):
        for row in one_row_each(SMALL_ROWS):
            for low, high in stretches_asked(len(row)):
                for number in (0, 1, -3, THIRTY):
                    keeper, plain = Keeper(row), PlainKeeper(row)
                    for deed in [("lift", low, high, number), ("lift", low, high, number), ("put", low, number),
                                 ("put", high, row[high]), ("lift", low, high, -number)]:
                        self.done(keeper, plain, deed)
                        self.assertEqual(keeper.entries(), plain.entries(), (row, deed))
                        self.assertEqual(keeper.row(), plain.cells)

    def test_by_hand(self):
        keeper = Keeper([5, 1, 4])
        self.assertEqual(keeper.lift(0, 1, 2), [(0, 1), (0, 2)])
        self.assertEqual(keeper.entries(), [((0, 0), (5, 5, 5, 0)), ((0, 1), (10, 3, 7, 2)), ((0, 2), (14, 3, 7, 0)),
                                            ((1, 1), (1, 1, 1, 0)), ((2, 2), (4, 4, 4, 0))])
        self.assertEqual(keeper.put(1, 4), [(0, 1), (0, 2), (1, 1)])
        self.assertEqual(keeper.entries(), [((0, 0), (5, 5, 5, 0)), ((0, 1), (11, 4, 7, 2)), ((0, 2), (15, 4, 7, 0)),
                                            ((1, 1), (2, 2, 2, 0)), ((2, 2), (4, 4, 4, 0))])
        self.assertEqual(keeper.lift(1, 2, -1), [(0, 1), (0, 2), (1, 1), (2, 2)])
        self.assertEqual(keeper.lift(0, 2, 10), [(0, 2)])
        self.assertEqual(keeper.row(), [17, 13, 13])
        self.assertEqual(keeper.told(1, 2), (26, 13, 13))
        self.assertEqual(keeper.entries(), [((0, 0), (5, 5, 5, 0)), ((0, 1), (10, 3, 7, 2)),
                                            ((0, 2), (43, 13, 17, 10)), ((1, 1), (1, 1, 1, 0)),
                                            ((2, 2), (3, 3, 3, 0))])

    def test_a_row_of_one_cell(self):
        keeper = Keeper([4])
        self.assertEqual(keeper.lift(0, 0, 3), [(0, 0)])
        self.assertEqual(keeper.entries(), [((0, 0), (7, 7, 7, 0))])
        self.assertEqual(keeper.put(0, 7), [])
        self.assertEqual(keeper.put(0, -1), [(0, 0)])
        self.assertEqual((keeper.row(), keeper.told(0, 0)), ([-1], (-1, -1, -1)))

    def test_deeds_that_change_no_entry_tell_none(self):
        for row in one_row_each(SMALL_ROWS + GREAT_ROWS):
            keeper = Keeper(row)
            keeper.lift(0, len(row) // 2, 3)
            keeper.lift(0, len(row) - 1, -1)
            for place, number in enumerate(keeper.row()):
                self.assertEqual(keeper.put(place, number), [])
            for low, high in stretches_asked(len(row), 10):
                self.assertEqual(keeper.lift(low, high, 0), [])

    def test_only_the_cover_and_what_is_around_it_changes(self):
        for row in one_row_each([9, 120]):
            keeper = Keeper(row)
            for low, high in stretches_asked(len(row), 30):
                pieces = plain_cover(len(row), low, high)
                told = keeper.lift(low, high, 2)
                for stretch in told:
                    self.assertTrue(any(stretch[0] <= a and b <= stretch[1] for a, b in pieces), (low, high))
                self.assertLessEqual(set(pieces), set(told))

    def test_rows_somewhat_beyond_the_bound(self):
        row = [k * k % 37 - 18 for k in range(130)]
        keeper, plain = Keeper(row), PlainKeeper(row)
        for deed in some_deeds(130, 15):
            self.done(keeper, plain, deed)
            self.same(keeper, plain, 5)
        keeper.put(3, 10 ** 40)
        keeper.lift(0, 129, -10 ** 40)
        self.assertEqual(keeper.row()[3], 0)


class Back(unittest.TestCase):
    def test_each_deed_is_taken_back(self):
        for row in one_row_each(SMALL_ROWS + GREAT_ROWS) + rows_for([3, 6]):
            keeper, plain = Keeper(row), PlainKeeper(row)
            deeds = some_deeds(len(row), 20)
            for deed in deeds:
                do(keeper, deed)
                do(plain, deed)
            for turn in deeds:
                told = keeper.back()
                self.assertIs(type(told), list)
                self.assertEqual(told, plain.back())
                self.assertEqual(keeper.entries(), plain.entries())
                self.assertEqual(keeper.row(), plain.cells)
                for low, high in stretches_asked(len(row), 6):
                    self.assertEqual(keeper.told(low, high), plain.told(low, high))
            self.assertEqual(keeper.row(), row)
            self.none_left(keeper)

    def none_left(self, keeper):
        kept = (keeper.entries(), keeper.row())
        for turn in range(2):
            with self.assertRaises(NoBack) as caught:
                keeper.back()
            self.assertIsInstance(caught.exception, BoxError)
            self.assertEqual((keeper.entries(), keeper.row()), kept)

    def test_behind_each_single_deed(self):
        for row in one_row_each([1, 2, 5, 9, 120]):
            keeper = Keeper(row)
            for deed in some_deeds(len(row), 25):
                ahead = keeper.entries()
                told = do(keeper, deed)
                behind = keeper.entries()
                self.assertEqual(keeper.back(), told)
                self.assertEqual(keeper.entries(), ahead)
                self.assertEqual(do(keeper, deed), told)
                self.assertEqual(keeper.entries(), behind)

    def test_a_deed_that_changed_nothing_is_one_to_take_back(self):
        for row in one_row_each([1, 2, 5, 120]):
            keeper = Keeper(row)
            keeper.put(0, row[0] + 1)
            keeper.put(0, row[0] + 1)
            keeper.lift(0, len(row) - 1, 0)
            self.assertEqual(keeper.back(), [])
            self.assertEqual(keeper.back(), [])
            self.assertEqual(keeper.row()[0], row[0] + 1)
            self.assertIn((0, 0), keeper.back())
            self.assertEqual(keeper.row(), row)
            self.none_left(keeper)

    def test_none_at_first(self):
        for row in one_row_each(SMALL_ROWS + [120]):
            keeper = Keeper(row)
            self.none_left(keeper)
            keeper.told(0, len(row) - 1)
            self.none_left(keeper)

    def test_deeds_and_backs_mixed(self):
        for row in one_row_each([1, 2, 3, 7, 8, 31, 120]):
            chance = random.Random(f"mixed {len(row)}")
            keeper, plain = Keeper(row), PlainKeeper(row)
            for deed in some_deeds(len(row), 40):
                if chance.random() < 0.4 and plain.past:
                    self.assertEqual(keeper.back(), plain.back())
                else:
                    self.assertEqual(do(keeper, deed), do(plain, deed))
                self.assertEqual(keeper.entries(), plain.entries())
                self.assertEqual(keeper.row(), plain.cells)
            while plain.past:
                self.assertEqual(keeper.back(), plain.back())
                self.assertEqual(keeper.entries(), plain.entries())
            self.none_left(keeper)


class Apart(unittest.TestCase):
    def test_two_keepers_do_not_touch_one_another(self):
        row = [3, -1, 4, 1, -5]
        one, other = Keeper(row), Keeper(row)
        ahead = other.entries()
        one.put(2, 8)
        one.lift(0, 3, 7)
        self.assertEqual((other.entries(), other.row()), (ahead, row))
        with self.assertRaises(NoBack):
            other.back()
        other.lift(1, 4, 2)
        self.assertEqual(one.row(), [10, 6, 15, 8, -5])
        one.back()
        self.assertEqual(other.row(), [3, 1, 6, 3, -3])

    def test_the_list_handed_in(self):
        for row in one_row_each([1, 2, 6, 120]):
            kept = list(row)
            keeper = Keeper(row)
            for deed in some_deeds(len(row), 14):
                do(keeper, deed)
                self.assertEqual(row, kept)
            behind = keeper.row()
            row[0] = 99
            row.append(1)
            self.assertEqual(keeper.row(), behind)
            while keeper.row() != kept:
                keeper.back()

    def test_what_is_told(self):
        keeper = Keeper([3, -1, 4, 1, -5])
        keeper.lift(0, 2, 1)
        entries, row, changed = keeper.entries(), keeper.row(), keeper.lift(1, 4, 6)
        kept = copy.deepcopy((entries, row, changed))
        keeper.put(0, 50)
        keeper.back()
        self.assertEqual((entries, row, changed), kept)
        behind = (keeper.entries(), keeper.row())
        for told in (entries, row, changed, keeper.entries(), keeper.row()):
            told.reverse()
            told[0] = None
            told.clear()
        self.assertEqual((keeper.entries(), keeper.row()), behind)
        back = keeper.back()
        back.clear()
        self.assertEqual((keeper.entries(), keeper.row()), kept[:2])
