"""Promises 2 to 6, for every list of a few points of a small field."""

import itertools
import unittest

from fencefield.counts import inside, rim, row_counts
from fencefield.fences import double_area, goes_left, is_fence, where
from tests import oracle

FIELD = [(x, y) for x in range(3) for y in range(3)]
ROUND_ABOUT = [(x, y) for x in range(-1, 4) for y in range(-1, 4)]


def lists_of_points():
    for count in (3, 4):
        yield from itertools.product(FIELD, repeat=count)
    yield from itertools.permutations(FIELD, 5)


def fences_from_their_least_corner():
    for count in (3, 4, 5, 6):
        for points in itertools.permutations(FIELD, count):
            if points[0] == min(points) and oracle.is_fence(points):
                yield list(points)


class AgainstOracle(unittest.TestCase):
    def test_is_fence(self):
        found = 0
        for points in lists_of_points():
            wanted = oracle.is_fence(points)
            found += wanted
            self.assertIs(is_fence(list(points)), wanted, points)
        self.assertGreater(found, 1000)

    def test_what_is_told_of_fences(self):
        for corners in fences_from_their_least_corner():
            self.assertIs(goes_left(corners), oracle.goes_left(corners), corners)
            places = [oracle.where(corners, point) for point in ROUND_ABOUT]
            self.assertEqual([where(corners, point) for point in ROUND_ABOUT], places, corners)
            # All whole points on the rim and inside are among those looked at.
            self.assertEqual(inside(corners), places.count("inside"), corners)
            self.assertEqual(rim(corners), places.count("rim"), corners)
            self.assertEqual(double_area(corners), 2 * places.count("inside") + places.count("rim") - 2, corners)
            for y in range(-1, 4):
                row = [place for point, place in zip(ROUND_ABOUT, places) if point[1] == y]
                self.assertEqual(row_counts(corners, y), (row.count("inside"), row.count("rim")), (corners, y))


if __name__ == "__main__":
    unittest.main()
