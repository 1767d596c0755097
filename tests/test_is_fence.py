"""Promise 2: what a fence is."""

import unittest

from fencefield.fences import is_fence
from tests.examples import COMB, FAR, LEFT_ROUND, SPIRAL, TRIANGLE, every_telling, moved, taken

# A stair of thirteen corners: nothing but their number is amiss.
STEPS = [(0, 0), (7, 0), (7, 7), (6, 7), (6, 6), (5, 6), (5, 5), (4, 5), (4, 4), (3, 4), (3, 3), (2, 3), (2, 2)]

TWICE = [
    [(0, 0), (0, 0), (4, 0), (0, 4)],
    [(0, 0), (4, 0), (0, 4), (0, 0)],
    [(0, 0), (4, 0), (4, 0)],
    [(1, 1), (1, 1), (1, 1)],
    # Two triangles that hang together at a corner.
    [(0, 0), (4, -2), (4, 2), (0, 0), (-4, 2), (-4, -2)],
]

STRAIGHT_BETWEEN = [
    [(0, 0), (2, 0), (4, 0), (0, 4)],
    [(0, 0), (1, 0), (2, 0), (3, 0), (4, 0), (0, 4)],
    [(0, 0), (4, 0), (2, 2), (0, 4)],
    [(0, 0), (0, 1), (0, 3), (0, 4), (-3, 2)],
    [(0, 0), (2, 4), (3, 6), (-3, 1)],
    [(0, 0), (3, 0), (6, 0), (6, 3), (6, 6), (3, 6), (0, 6), (0, 3)],
]

STRAIGHT_BACK = [
    [(0, 0), (4, 0), (2, 0), (2, 3)],
    [(0, 0), (4, 0), (-2, 0), (2, 3)],
    [(0, 0), (0, 4), (0, 1), (3, 3)],
    [(0, 0), (4, 8), (3, 6), (9, 0)],
    [(0, 0), (5, 0), (5, 5), (5, 2), (0, 5)],
    [(0, 0), (6, 0), (6, 6), (3, 6), (3, 9), (3, 4)],
]

CROSSING = [
    [(0, 0), (4, 4), (4, 0), (0, 4)],
    [(0, 0), (3, 3), (3, 0), (0, 2)],
    [(0, 0), (6, 0), (6, 4), (3, -1), (0, 4)],
    # A star of five points.
    [(0, 10), (6, -8), (-10, 3), (10, 3), (-6, -8)],
]

TOUCHING = [
    # A corner upon a side.
    [(0, 0), (6, 0), (6, 4), (3, 0), (0, 4)],
    [(0, 0), (6, 6), (9, 0), (3, 3), (0, 8)],
    [(0, 0), (6, 3), (6, 8), (4, 2), (0, 8)],
    # Sides upon one another: in part, the one wholly within the other, and contrary ways.
    [(0, 0), (6, 0), (6, 4), (4, 4), (4, 0), (2, 0), (2, 4), (0, 4)],
    [(0, 0), (6, 0), (6, -4), (8, -4), (8, 0), (4, 0), (4, 4), (0, 4)],
    [(0, 0), (4, 4), (8, 4), (6, 6), (2, 2), (0, 9)],
]

ON_A_LINE = [
    [(0, 0), (1, 0), (2, 0)],
    [(0, 0), (2, 0), (1, 0)],
    [(0, 0), (0, 5), (0, -5)],
    [(0, 0), (1, 2), (2, 4), (3, 6)],
    [(3, 3), (1, 1), (2, 2), (0, 0), (5, 5)],
    [(k, -3 * k) for k in range(12)],
]

TOO_SHORT = [[], [(1, 1)], [(0, 0), (1, 1)]]

NO_FENCES = TOO_SHORT + [STEPS] + TWICE + STRAIGHT_BACK + CROSSING + TOUCHING + ON_A_LINE


class IsFence(unittest.TestCase):
    def holds(self, fences):
        for corners in fences:
            for telling in every_telling(corners):
                with self.subTest(corners=telling):
                    self.assertIs(is_fence(telling), True)

    def fails(self, lists):
        for corners in lists:
            for telling in every_telling(corners):
                with self.subTest(corners=telling):
                    self.assertIs(is_fence(telling), False)

    def test_fences_either_way_round_and_from_any_corner_on(self):
        self.holds([corners for corners, area in LEFT_ROUND])

    def test_three_and_twelve_corners(self):
        self.assertEqual([len(TRIANGLE), len(COMB), len(SPIRAL)], [3, 12, 12])
        self.holds([TRIANGLE, COMB, SPIRAL])

    def test_every_number_of_corners(self):
        for count in range(3, 13):
            corners = [(k, k * k) for k in range(count)]
            with self.subTest(count=count):
                self.holds([corners])

    def test_too_few_points(self):
        self.assertIs(is_fence([]), False)
        self.assertIs(is_fence([(3, 4)]), False)
        self.assertIs(is_fence([(0, 0), (3, 4)]), False)
        self.assertIs(is_fence([(3, 4), (3, 4)]), False)

    def test_too_many_points(self):
        self.holds([STEPS[:12]])
        self.fails([STEPS, [(k, k * k) for k in range(13)], [(k, k * k) for k in range(14)]])
        self.assertIs(is_fence([(k, k * k) for k in range(200)]), False)

    def test_a_corner_that_comes_twice(self):
        self.fails(TWICE)

    def test_a_corner_straight_between_its_neighbours(self):
        self.holds(STRAIGHT_BETWEEN)

    def test_a_side_straight_back_over_its_neighbour(self):
        self.fails(STRAIGHT_BACK)

    def test_sides_that_cross(self):
        self.fails(CROSSING)

    def test_sides_that_touch_or_lie_upon_one_another(self):
        self.fails(TOUCHING)

    def test_points_on_a_line(self):
        self.fails(ON_A_LINE)

    def test_sides_on_one_line_that_do_not_meet(self):
        self.holds([
            [(0, 0), (2, 0), (2, 2), (4, 2), (4, 0), (6, 0), (6, 4), (0, 4)],
            [(0, 0), (2, 2), (5, 2), (4, 4), (6, 6), (0, 6)],
        ])

    def test_a_line_that_misses_the_side_itself(self):
        self.holds([[(0, 0), (10, 0), (10, 10), (5, 1), (0, 10)]])
        self.fails([[(0, 0), (10, 0), (10, 10), (5, 0), (0, 10)]])
        self.fails([[(0, 0), (10, 0), (10, 10), (5, -1), (0, 10)]])


class FarApart(IsFence):
    """All the same, taken very many times and moved away."""

    def holds(self, fences):
        for corners in fences:
            super().holds([taken(corners, FAR // 200), moved(corners, FAR, -FAR)])

    def fails(self, lists):
        for corners in lists:
            super().fails([taken(corners, FAR // 200), moved(corners, FAR, -FAR)])

    def test_beside_a_long_side_by_less_than_one(self):
        # At x = 0 the first side passes half way between (0, -1) and (0, 0).
        for middle, wanted in (((0, 0), True), ((0, -1), False)):
            corners = [(-FAR, -FAR), (FAR, FAR - 1), (FAR, FAR), middle, (-FAR, FAR)]
            for telling in every_telling(corners):
                self.assertIs(is_fence(telling), wanted)

    def test_upon_a_long_side(self):
        for middle, wanted in (((7, 8), True), ((7, 7), False), ((7, 6), False)):
            corners = [(-FAR, -FAR), (FAR, FAR), (FAR - 1, FAR), middle, (-FAR, FAR)]
            for telling in every_telling(corners):
                self.assertIs(is_fence(telling), wanted)

    def test_very_narrow(self):
        for third, wanted in (((0, 0), True), ((1, 0), True), ((FAR, FAR - 1), False), ((0, -1), True)):
            for telling in every_telling([(-FAR, -FAR), (FAR, FAR - 1), third]):
                self.assertIs(is_fence(telling), wanted)
        for telling in every_telling([(-FAR, -FAR), (FAR, FAR), (FAR - 1, FAR - 1)]):
            self.assertIs(is_fence(telling), False)

    def test_somewhat_beyond(self):
        beyond = 10 ** 45
        self.assertIs(is_fence([(-beyond, 0), (beyond, 0), (0, 1)]), True)
        self.assertIs(is_fence([(-beyond, 0), (beyond, 0), (1, 0)]), False)


if __name__ == "__main__":
    unittest.main()
