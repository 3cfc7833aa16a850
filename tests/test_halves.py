"""Stretches, heights and covers: point 9."""

import unittest

from boxsums.halves import cover, height, stretches


def plain_stretches(a, b):
    """The stretches from (a, b) on, halved by the words of the point."""
    if a == b:
        return [(a, b)]
    middle = (a + b) // 2
    return [(a, b)] + plain_stretches(a, middle) + plain_stretches(middle + 1, b)


def within(inner, outer):
    return outer[0] <= inner[0] and inner[1] <= outer[1]


def plain_cover(side, low, high):
    inside = [stretch for stretch in plain_stretches(0, side - 1) if within(stretch, (low, high))]
    return sorted(one for one in inside
                  if not any(within(one, other) for other in inside if other != one))


def fewest(side, low, high):
    """How many stretches at the least, side by side, fill the one from low to high."""
    best = {low: 0}
    for a, b in sorted(plain_stretches(0, side - 1)):
        if a in best and b <= high:
            best[b + 1] = min(best.get(b + 1, side), best[a] + 1)
    return best[high + 1]


class Stretches(unittest.TestCase):
    def test_stretches_of_all_sides(self):
        for side in range(1, 121):
            told = stretches(side)
            self.assertIs(type(told), list)
            self.assertEqual(told, sorted(plain_stretches(0, side - 1)), side)
            self.assertEqual(len(told), len(set(told)))
            self.assertEqual(len(told), 2 * side - 1)

    def test_stretches_by_hand(self):
        self.assertEqual(stretches(1), [(0, 0)])
        self.assertEqual(stretches(2), [(0, 0), (0, 1), (1, 1)])
        self.assertEqual(stretches(3), [(0, 0), (0, 1), (0, 2), (1, 1), (2, 2)])
        self.assertEqual(stretches(5), [(0, 0), (0, 1), (0, 2), (0, 4), (1, 1), (2, 2), (3, 3), (3, 4), (4, 4)])

    def test_told_stretches_are_the_askers_own(self):
        told = stretches(2)
        told.reverse()
        told.append(None)
        self.assertEqual(stretches(2), [(0, 0), (0, 1), (1, 1)])
        self.assertEqual(cover(2, 0, 1), [(0, 1)])


class Height(unittest.TestCase):
    def test_height_of_all_sides(self):
        for side in range(1, 131):
            told = height(side)
            self.assertIs(type(told), int)
            self.assertGreaterEqual(told, 0)
            self.assertGreaterEqual(2 ** told, side)
            if told > 0:
                self.assertLess(2 ** (told - 1), side)

    def test_height_by_hand(self):
        told = {1: 0, 2: 1, 3: 2, 4: 2, 5: 3, 7: 3, 8: 3, 9: 4, 15: 4, 16: 4, 17: 5, 31: 5, 32: 5, 33: 6,
                63: 6, 64: 6, 65: 7, 119: 7, 120: 7}
        for side, awaited in told.items():
            self.assertEqual(height(side), awaited, side)


class Cover(unittest.TestCase):
    def right(self, side, low, high):
        told = cover(side, low, high)
        where = (side, low, high)
        self.assertIs(type(told), list)
        self.assertEqual(told, plain_cover(side, low, high), where)
        self.assertEqual((told[0][0], told[-1][1]), (low, high), where)
        for one, other in zip(told, told[1:]):
            self.assertEqual(one[1] + 1, other[0], where)
        self.assertLessEqual(len(told), max(1, 2 * height(side)), where)
        self.assertEqual(len(told), fewest(side, low, high), where)

    def test_every_stretch_of_sides_up_to_twenty(self):
        for side in range(1, 21):
            for low in range(side):
                for high in range(low, side):
                    self.right(side, low, high)

    def test_stretches_of_great_sides(self):
        for side in (31, 32, 33, 63, 64, 65, 119, 120):
            for low in range(0, side, 7):
                for high in list(range(low, side, 11)) + [side - 1]:
                    self.right(side, low, high)

    def test_cover_by_hand(self):
        self.assertEqual(cover(1, 0, 0), [(0, 0)])
        self.assertEqual(cover(8, 0, 7), [(0, 7)])
        self.assertEqual(cover(8, 1, 6), [(1, 1), (2, 3), (4, 5), (6, 6)])
        self.assertEqual(cover(5, 1, 3), [(1, 1), (2, 2), (3, 3)])

    def test_told_covers_are_the_askers_own(self):
        told = cover(8, 1, 6)
        told.clear()
        self.assertEqual(cover(8, 1, 6), [(1, 1), (2, 3), (4, 5), (6, 6)])
