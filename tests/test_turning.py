"""Promises 8 and 9: fences made greater, and fences that are led elsewhere by a turning."""

import unittest

from fencefield.counts import inside, rim
from fencefield.errors import NoTurning
from fencefield.fences import double_area, is_fence
from fencefield.turning import greater, greater_counts, turned
from tests import oracle
from tests.examples import (COMB, FAR, GREAT_TURNINGS, LEFT_ROUND, SMALL_TURNINGS, SPIRAL, SQUARE, STRAIGHT_CORNERS,
                            TRIANGLE, every_telling, grown_fences, led, moved, taken)
from tests.refused import assert_refused

FENCES = [corners for corners, area in LEFT_ROUND]

NO_TURNINGS = [
    (0, 0, 0, 0, 0, 0), (1, 0, 0, 0, 3, 4), (1, 1, 1, 1, 0, 0), (2, 4, 1, 2, 0, 0), (2, 0, 0, 1, 0, 0),
    (1, 0, 0, 2, 0, 0), (1, 0, 0, -2, 0, 0), (2, 0, 0, 2, 0, 0), (1, 1, 1, -1, 0, 0), (3, 1, 1, 1, 5, 5),
    (0, 2, 1, 0, 0, 0), (0, 3, -1, 0, 1, 1),
    # Where products were left out or added up, these would be turnings.
    (1, 0, 0, 0, 1, 1), (0, 1, 0, 0, 0, 1), (0, 0, 0, 1, 1, 0), (2, 1, 3, -1, 0, 0), (2, 1, -1, 1, 0, 0),
    (FAR, FAR - 1, FAR, FAR, 0, 0), (FAR, FAR + 2, FAR - 2, FAR, 0, 0), (FAR, FAR, FAR, FAR, 1, 1),
]


def list_of_points(told):
    return type(told) is list and all(type(point) is tuple and [type(number) for number in point] == [int, int]
                                      for point in told)


class Greater(unittest.TestCase):
    def test_by_hand(self):
        self.assertEqual(greater([(1, 2), (-3, 0), (0, -5)], 3), [(3, 6), (-9, 0), (0, -15)])
        self.assertEqual(greater(TRIANGLE, 1), TRIANGLE)

    def test_each_corner_in_its_order(self):
        for corners in FENCES + grown_fences(9):
            for k in (1, 2, 7, 10 ** 20, FAR):
                for telling in every_telling(moved(corners, -4, -3)):
                    told = greater(telling, k)
                    self.assertEqual(told, taken(telling, k))
                    self.assertTrue(list_of_points(told))

    def test_counts_by_hand(self):
        self.assertEqual(greater_counts(TRIANGLE, 1), (11, 3))
        self.assertEqual(greater_counts(TRIANGLE, 2), (33, 17))
        self.assertEqual(greater_counts([(0, 0), (1, 0), (0, 1)], 1), (3, 0))
        self.assertEqual(greater_counts([(0, 0), (1, 0), (0, 1)], 2), (6, 0))
        self.assertEqual(greater_counts([(0, 0), (1, 0), (0, 1)], 3), (10, 1))

    def holds(self, corners, k, wanted):
        told = greater_counts(corners, k)
        self.assertIs(type(told), tuple)
        self.assertEqual([type(number) for number in told], [int, int])
        self.assertEqual(told, wanted, (corners, k))

    def test_counts_against_going_through_all_points(self):
        for corners in FENCES + grown_fences(9)[::4]:
            for k in (1, 2, 3):
                inside_count, rim_count = oracle.counts(taken(corners, k))
                for telling in every_telling(moved(corners, -5, 2)):
                    self.holds(telling, k, (inside_count + rim_count, inside_count))

    def test_counts_against_those_of_the_greater_fence(self):
        for corners in FENCES + grown_fences(9) + [led(SPIRAL, turning) for turning in GREAT_TURNINGS]:
            for k in (1, 2, 5, 10 ** 10 + 1, 10 ** 20, FAR):
                other = taken(corners, k)
                self.holds(corners, k, (inside(other) + rim(other), inside(other)))

    def test_counts_far_apart(self):
        k = 10 ** 20
        # A square: all points are as many as those of a row, times the rows.
        for side in (1, 6, FAR):
            corners = moved([(0, 0), (side, 0), (side, side), (0, side)], -FAR, 3)
            self.holds(corners, k, ((k * side + 1) ** 2, (k * side - 1) ** 2))


class Turned(unittest.TestCase):
    def test_by_hand(self):
        corners = [(0, 0), (1, 0), (0, 1)]
        self.assertEqual(turned(corners, (2, 3, 3, 4, 10, 20)), [(10, 20), (12, 23), (13, 24)])
        self.assertEqual(turned(corners, (1, 5, 0, -1, 0, 0)), [(0, 0), (1, 0), (5, -1)])
        self.assertEqual(turned([(2, 7), (-4, 1), (3, -1)], (0, -1, 1, 0, 0, 0)), [(-7, 2), (-1, -4), (1, 3)])

    def test_each_corner_in_its_order(self):
        for corners in FENCES:
            for turning in SMALL_TURNINGS + GREAT_TURNINGS:
                for telling in every_telling(moved(corners, -3, -4)):
                    told = turned(telling, turning)
                    self.assertEqual(told, led(telling, turning))
                    self.assertTrue(list_of_points(told))

    def test_very_great_numbers(self):
        for a, b, c, d in ((FAR, FAR - 1, 1, 1), (FAR, FAR + 1, FAR - 1, FAR), (-FAR, FAR + 1, FAR - 1, -FAR)):
            for corners in (TRIANGLE, moved(COMB, FAR, -FAR), taken(SPIRAL, FAR // 10)):
                turning = (a, b, c, d, -FAR, FAR)
                self.assertEqual(turned(corners, turning), led(corners, turning))

    def test_what_stays(self):
        for corners in FENCES + grown_fences(9):
            for turning in SMALL_TURNINGS + GREAT_TURNINGS:
                other = turned(corners, turning)
                self.assertTrue(is_fence(other))
                self.assertEqual(double_area(other), double_area(corners))
                self.assertEqual(rim(other), rim(corners))
                self.assertEqual(inside(other), inside(corners))

    def test_no_turning(self):
        for turning in NO_TURNINGS:
            self.assertNotIn(turning[0] * turning[3] - turning[1] * turning[2], (1, -1))
            for corners in (TRIANGLE, SQUARE, STRAIGHT_CORNERS, moved(COMB, FAR, FAR)):
                with self.subTest(corners=corners, turning=turning):
                    assert_refused(self, NoTurning, lambda: turned(corners, turning))

    def test_every_turning_of_small_numbers(self):
        numbers = range(-3, 4)
        for a, b, c, d in [(a, b, c, d) for a in numbers for b in numbers for c in numbers for d in numbers]:
            turning = (a, b, c, d, 2, -9)
            if a * d - b * c in (1, -1):
                self.assertEqual(turned(TRIANGLE, turning), led(TRIANGLE, turning))
            else:
                with self.assertRaises(NoTurning):
                    turned(TRIANGLE, turning)


if __name__ == "__main__":
    unittest.main()
