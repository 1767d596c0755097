"""Promises 3 and 4: the double area, the way round, and where a point lies."""

import unittest

from fencefield.fences import double_area, goes_left, where
from tests.examples import (ARROW, COMB, FAR, LEFT_ROUND, SPIRAL, SQUARE, STRAIGHT_CORNERS, TRIANGLE,
                            every_telling, from_every_corner, moved, other_way_round, taken)

INSIDE, RIM, OUTSIDE = "inside", "rim", "outside"


class DoubleArea(unittest.TestCase):
    def test_in_every_telling(self):
        for corners, area in LEFT_ROUND:
            for telling in every_telling(corners):
                with self.subTest(corners=telling):
                    told = double_area(telling)
                    self.assertIs(type(told), int)
                    self.assertEqual(told, area)

    def test_odd_and_least(self):
        for telling in every_telling([(5, 5), (6, 5), (5, 6)]):
            self.assertEqual(double_area(telling), 1)
        for telling in every_telling([(0, 0), (5, 3), (2, 3), (-4, 7)]):
            self.assertEqual(double_area(telling), 35)

    def test_wherever_it_lies(self):
        for corners, area in LEFT_ROUND:
            for x, y in ((-3, -3), (-100, 7), (FAR, -FAR), (-FAR, FAR)):
                self.assertEqual(double_area(moved(corners, x, y)), area)

    def test_far_apart(self):
        for corners, area in LEFT_ROUND:
            for telling in every_telling(taken(corners, FAR)):
                self.assertEqual(double_area(telling), area * FAR * FAR)
        for telling in every_telling([(-FAR, -FAR), (FAR, FAR - 1), (0, 0)]):
            self.assertEqual(double_area(telling), FAR)
        for telling in every_telling([(-FAR, -FAR), (FAR - 1, FAR - 2), (FAR, FAR - 1)]):
            self.assertEqual(double_area(telling), 1)


class GoesLeft(unittest.TestCase):
    def test_one_way_and_the_other(self):
        for corners, area in LEFT_ROUND:
            for telling in from_every_corner(corners):
                self.assertIs(goes_left(telling), True)
            for telling in from_every_corner(other_way_round(corners)):
                self.assertIs(goes_left(telling), False)

    def test_wherever_it_lies_and_far_apart(self):
        for corners, area in LEFT_ROUND:
            for other in (moved(corners, -100, -100), moved(corners, FAR, -FAR), taken(corners, FAR)):
                self.assertIs(goes_left(other), True)
                self.assertIs(goes_left(other_way_round(other)), False)

    def test_very_narrow(self):
        for telling in from_every_corner([(-FAR, -FAR), (FAR, FAR - 1), (0, 0)]):
            self.assertIs(goes_left(telling), True)
        for telling in from_every_corner([(-FAR, -FAR), (FAR, FAR - 1), (0, -1)]):
            self.assertIs(goes_left(telling), False)

    def test_mirrored_and_turned_half_round(self):
        for corners, area in LEFT_ROUND:
            self.assertIs(goes_left([(-x, y) for x, y in corners]), False)
            self.assertIs(goes_left([(-x, -y) for x, y in corners]), True)


PLACES = [
    (TRIANGLE, {
        INSIDE: [(1, 1), (2, 1), (1, 2)],
        RIM: [(0, 0), (4, 0), (0, 3), (1, 0), (3, 0), (0, 1), (0, 2)],
        OUTSIDE: [(2, 2), (3, 1), (-1, 0), (5, 0), (-1, 3), (1, 3), (0, 4), (0, -1), (4, 3), (-5, -5)],
    }),
    (SQUARE, {
        INSIDE: [(1, 1), (3, 3), (5, 5), (1, 5), (5, 1)],
        RIM: [(0, 0), (6, 0), (6, 6), (0, 6), (3, 0), (6, 3), (3, 6), (0, 3)],
        OUTSIDE: [(-1, 0), (7, 0), (-1, 6), (7, 6), (0, -1), (0, 7), (6, -1), (6, 7), (-1, 3), (7, 3), (3, -1), (3, 7)],
    }),
    (STRAIGHT_CORNERS, {
        INSIDE: [(1, 2), (3, 2), (5, 2), (3, 1), (3, 3)],
        RIM: [(3, 0), (0, 2), (1, 0), (5, 0), (0, 1), (0, 3), (6, 2), (2, 4)],
        OUTSIDE: [(-1, 2), (7, 2), (3, -1), (3, 5), (-1, 0), (7, 0), (-1, 4), (7, 4)],
    }),
    # Points level with (5, 2), and others below it, between the two feet.
    (ARROW, {
        INSIDE: [(5, 3), (5, 8), (2, 2), (8, 2), (4, 2), (6, 2), (1, 1), (9, 1)],
        RIM: [(0, 0), (5, 2), (10, 0), (5, 9)],
        OUTSIDE: [(5, 1), (5, 0), (-1, 0), (11, 0), (0, 2), (10, 2), (-5, 2), (15, 2), (0, 9), (9, 9), (5, 10), (4, 1)],
    }),
    (COMB, {
        INSIDE: [(1, 1), (5, 1), (9, 1), (1, 4), (5, 4), (9, 4), (1, 3), (5, 3), (9, 3)],
        RIM: [(2, 1), (3, 1), (4, 1), (6, 1), (7, 1), (8, 1), (2, 3), (4, 3), (6, 2), (8, 4), (1, 5), (5, 5), (9, 5),
              (0, 1), (10, 1), (5, 0)],
        OUTSIDE: [(3, 2), (7, 2), (3, 5), (7, 5), (-1, 5), (11, 5), (-1, 1), (11, 1), (-1, 0), (11, 0), (3, 6), (5, 6)],
    }),
    (SPIRAL, {
        INSIDE: [(1, 1), (5, 1), (9, 1), (9, 2), (9, 5), (9, 8), (9, 9), (5, 9), (1, 9), (1, 8), (1, 6), (1, 5), (2, 5),
                 (4, 5), (5, 5)],
        RIM: [(0, 0), (0, 2), (0, 4), (0, 10), (10, 10), (10, 0), (6, 4), (6, 5), (6, 6), (2, 6), (2, 7), (2, 8), (5, 8),
              (8, 8), (8, 5), (8, 2), (4, 2), (4, 4), (0, 1), (0, 7)],
        OUTSIDE: [(1, 3), (5, 3), (7, 3), (0, 3), (-1, 3), (7, 4), (7, 5), (7, 6), (7, 7), (3, 7), (5, 7),
                  (-1, 0), (-1, 2), (-1, 4), (-1, 10), (11, 10), (11, 8), (11, 6), (11, 4), (11, 2), (11, 0), (-1, 6)],
    }),
]


class Where(unittest.TestCase):
    def holds(self, corners, point, place):
        with self.subTest(corners=corners, point=point):
            self.assertEqual(where(corners, point), place)

    def test_in_every_telling(self):
        for corners, places in PLACES:
            for telling in every_telling(corners):
                for place, points in places.items():
                    for point in points:
                        self.holds(telling, point, place)

    def test_turned_and_mirrored(self):
        changes = [lambda x, y: (-y, x), lambda x, y: (-x, -y), lambda x, y: (y, -x), lambda x, y: (-x, y),
                   lambda x, y: (x + 3 * y, y), lambda x, y: (x, y - 2 * x)]
        for corners, places in PLACES:
            for change in changes:
                changed = [change(x, y) for x, y in corners]
                for place, points in places.items():
                    for x, y in points:
                        self.holds(changed, change(x, y), place)

    def test_far_apart(self):
        for corners, places in PLACES:
            for place, points in places.items():
                for point in points:
                    self.holds(taken(corners, FAR // 10), taken([point], FAR // 10)[0], place)
                    self.holds(moved(corners, -FAR, FAR), moved([point], -FAR, FAR)[0], place)

    def test_every_corner_is_on_the_rim(self):
        for corners, area in LEFT_ROUND:
            for corner in corners:
                self.holds(corners, corner, RIM)

    def test_beside_a_long_side_by_less_than_one(self):
        for telling in every_telling([(-FAR, -FAR), (FAR, FAR - 1), (-FAR, FAR)]):
            self.holds(telling, (0, 0), INSIDE)
            self.holds(telling, (0, -1), OUTSIDE)
            self.holds(telling, (-FAR, -FAR), RIM)
            self.holds(telling, (1 - FAR, 1 - FAR), INSIDE)
            self.holds(telling, (FAR - 1, FAR - 2), OUTSIDE)

    def test_upon_a_long_side(self):
        for telling in every_telling([(-FAR, -FAR), (FAR, FAR), (-FAR, FAR)]):
            self.holds(telling, (7, 7), RIM)
            self.holds(telling, (7, 8), INSIDE)
            self.holds(telling, (7, 6), OUTSIDE)
            self.holds(telling, (FAR - 1, FAR - 1), RIM)
            self.holds(telling, (FAR - 1, FAR), RIM)
            self.holds(telling, (FAR + 1, FAR + 1), OUTSIDE)

    def test_somewhat_beyond(self):
        beyond = 10 ** 45
        fence = [(-beyond, -1), (beyond, -1), (0, beyond)]
        self.holds(fence, (0, 0), INSIDE)
        self.holds(fence, (5, -1), RIM)
        self.holds(fence, (beyond, 0), OUTSIDE)
        self.holds(SQUARE, (beyond, 3), OUTSIDE)
        self.holds(SQUARE, (-beyond, 3), OUTSIDE)


if __name__ == "__main__":
    unittest.main()
