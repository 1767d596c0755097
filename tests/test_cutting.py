"""Promise 11: fences cut into least triangles."""

import itertools
import unittest

from fencefield.cutting import least_triangles
from fencefield.errors import TooWide
from tests import oracle
from tests.examples import (ARROW, COMB, FAR, GREAT_TURNINGS, LEFT_ROUND, SMALL_TURNINGS, SPIRAL, STRAIGHT_CORNERS,
                            TRIANGLE, every_telling, from_every_corner, grown_fences, led, moved, taken)
from tests.refused import assert_refused

# A spiral of twelve corners, narrow enough to be cut.
NARROW_SPIRAL = [(0, 0), (6, 0), (6, 5), (1, 5), (1, 2), (4, 2), (4, 3), (2, 3), (2, 4), (5, 4), (5, 1), (0, 1)]

# Each with its double area.
NARROW = [
    ([(0, 0), (1, 0), (0, 1)], 1),
    ([(0, 0), (1, 0), (1, 1), (0, 1)], 2),
    ([(0, 0), (2, 1), (1, 2)], 3),
    (TRIANGLE, 12),
    (STRAIGHT_CORNERS, 48),
    ([(0, 0), (3, 1), (6, 0), (3, 5)], 24),
    ([(0, 0), (8, 0), (8, 3), (6, 3), (6, 1), (5, 1), (5, 3), (3, 3), (3, 1), (1, 1), (1, 3), (0, 3)], 36),
    (NARROW_SPIRAL, 36),
    # Straight corners on every side, on one side alone, and on a side that the others are seen along.
    ([(0, 0), (1, 0), (2, 0), (4, 0), (3, 1), (1, 3), (0, 4), (0, 3), (0, 1)], 16),
    ([(0, 0), (1, 0), (2, 0), (3, 0), (4, 0), (5, 0), (6, 0), (7, 0), (8, 0), (9, 0), (10, 0), (4, 3)], 30),
    ([(0, 0), (2, 0), (2, 2), (4, 2), (4, 0), (6, 0), (6, 4), (0, 4)], 40),
    ([(0, 0), (1, 1), (2, 2), (4, 4), (5, 4), (3, 2), (2, 1), (1, 0)], 8),
    # One inside point, and many, with no point on the rim but the corners.
    ([(0, 0), (1, 0), (2, 7)], 7),
    ([(0, 0), (1, 0), (23, 59)], 59),
    ([(-3, -5), (4, -6), (0, 3)], 59),
    ([(0, 0), (60, 0), (0, 1)], 60),
    ([(0, 0), (5, 0), (5, 6), (0, 6)], 60),
    ([(0, 0), (30, 1), (30, 2), (0, 1)], 60),
]

WIDE = [
    [(0, 0), (61, 0), (0, 1)],
    [(0, 0), (1, 0), (23, 61)],
    [(0, 0), (31, 0), (31, 1), (0, 1)],
    ARROW, COMB, SPIRAL,
    [(-FAR, -FAR), (FAR, FAR - 1), (0, 0)],
]


class LeastTriangles(unittest.TestCase):
    def holds(self, corners):
        told = least_triangles(corners)
        self.assertIs(type(told), list)
        self.assertEqual(len(told), oracle.double_area(corners), corners)
        for triangle in told:
            self.assertIs(type(triangle), list)
            self.assertEqual([type(point) for point in triangle], [tuple] * 3)
            self.assertEqual([type(number) for point in triangle for number in point], [int] * 6)
            self.assertEqual(oracle.double_area(triangle), 1, corners)
            self.assertTrue(oracle.triangle_within(corners, triangle, reach=10 ** 45), (corners, triangle))
        for one, other in itertools.combinations(told, 2):
            self.assertTrue(oracle.triangles_apart(one, other), (corners, one, other))

    def test_all_examples_are_as_told(self):
        for corners, area in NARROW:
            self.assertTrue(oracle.is_fence(corners), corners)
            self.assertEqual(oracle.double_area(corners), area, corners)
        for corners in WIDE:
            self.assertTrue(oracle.is_fence(corners), corners)
            self.assertGreater(oracle.double_area(corners), 60)

    def test_either_way_round(self):
        for corners, area in NARROW:
            self.holds(corners)
            self.holds(corners[::-1])

    def test_from_every_corner(self):
        for corners, area in NARROW[:12]:
            for telling in from_every_corner(corners):
                self.holds(telling)

    def test_led_by_a_turning(self):
        for k, (corners, area) in enumerate(NARROW):
            for turning in (SMALL_TURNINGS + GREAT_TURNINGS)[k % 3::3]:
                self.holds(led(corners, turning))

    def test_long_and_thin_and_far_away(self):
        for corners, area in NARROW:
            self.holds(led(corners, (1, FAR // 70, 0, 1, -FAR, FAR)))
            self.holds(led(corners, (1 + 3 * 10 ** 37, 3 * 10 ** 18, 10 ** 19, 1, 5, FAR)))
        for back in (1, 2, 7, 60):
            corners = [(-FAR, -FAR), (FAR - back, FAR - back - 1), (FAR, FAR - 1)]
            self.assertEqual(oracle.double_area(corners), back)
            for telling in every_telling(corners):
                self.holds(telling)

    def test_fences_as_the_lots_fall(self):
        cut = 0
        for corners in grown_fences(5) + grown_fences(6) + grown_fences(7):
            if oracle.double_area(corners) <= 60:
                self.holds(corners)
                cut += 1
        self.assertGreater(cut, 100)

    def test_every_small_fence(self):
        field = [(x, y) for x in range(3) for y in range(3)]
        for count in (3, 4, 5, 6):
            for points in itertools.permutations(field, count):
                if points[0] == min(points) and points[1] < points[-1] and oracle.is_fence(points):
                    self.holds(list(points))

    def test_every_triangle_on_one_step(self):
        # Up to a turning, every triangle with a side without points but its ends.
        for area in range(1, 61):
            for x in range(0, area, 1 + area // 6):
                self.holds([(0, 0), (1, 0), (x, area)])

    def test_sixty_and_sixty_one(self):
        for area, corners in ((60, [(0, 0), (60, 0), (0, 1)]), (61, [(0, 0), (61, 0), (0, 1)])):
            for turning in SMALL_TURNINGS + GREAT_TURNINGS:
                for telling in every_telling(led(corners, turning)):
                    if area == 60:
                        self.assertEqual(len(least_triangles(telling)), 60)
                    else:
                        self.refused(telling)

    def refused(self, corners):
        with self.subTest(corners=corners):
            assert_refused(self, TooWide, lambda: least_triangles(corners))

    def test_too_wide(self):
        for corners in WIDE + [taken(corners, FAR) for corners, area in LEFT_ROUND]:
            for telling in every_telling(corners):
                self.refused(telling)
            self.refused(moved(corners, FAR, -FAR))


if __name__ == "__main__":
    unittest.main()
