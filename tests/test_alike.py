"""Promise 10: which fences are alike, and by which turning."""

import itertools
import unittest

from fencefield.turning import alike
from tests import oracle
from tests.examples import (ARROW, COMB, FAR, GREAT_TURNINGS, LEFT_ROUND, SMALL_TURNINGS, SPIRAL, SQUARE,
                            STRAIGHT_CORNERS, TRIANGLE, every_telling, grown_fences, led, moved, other_way_round, taken)

FENCES = [corners for corners, area in LEFT_ROUND]

# A fence that no turning but the one that changes nothing leads to itself, and whose first three
# corners lie on a line.
UNEVEN = [(0, 0), (1, 0), (3, 0), (5, 2), (7, 1), (6, 6), (2, 3), (1, 4)]

# Pairs with the same number of corners.
NOT_ALIKE = [
    # Another area.
    ([(0, 0), (1, 0), (0, 1)], [(0, 0), (2, 0), (0, 1)]),
    (SQUARE, [(0, 0), (6, 0), (6, 5), (0, 5)]),
    (TRIANGLE, taken(TRIANGLE, 2)),
    # The same area and another rim count: what leads the one to the other is no whole turning.
    (SQUARE, [(0, 0), (9, 0), (9, 4), (0, 4)]),
    (SQUARE, [(0, 0), (36, 0), (36, 1), (0, 1)]),
    ([(0, 0), (4, 0), (0, 1)], [(0, 0), (2, 0), (0, 2)]),
    ([(0, 0), (7, 0), (0, 1)], [(0, 0), (1, 0), (2, 7)]),
    # The same area, rim and inside count.
    ([(0, 0), (1, 0), (2, 7)], [(0, 0), (1, 0), (3, 7)]),
    ([(0, 0), (1, 0), (2, 13)], [(0, 0), (1, 0), (4, 13)]),
    # The same points inside, with another straight corner.
    ([(0, 0), (1, 0), (4, 0), (0, 4)], [(0, 0), (2, 0), (4, 0), (0, 4)]),
    ([(0, 0), (3, 0), (6, 0), (6, 6), (0, 6)], [(0, 0), (2, 0), (6, 0), (6, 6), (0, 6)]),
    ([(0, 0), (2, 0), (6, 0), (6, 2), (6, 6), (0, 6)], [(0, 0), (2, 0), (6, 0), (6, 4), (6, 6), (0, 6)]),
    # The same corners in another order.
    ([(0, 0), (9, 0), (0, 9), (1, 2)], [(0, 0), (9, 0), (1, 2), (0, 9)]),
    ([(0, 0), (4, 0), (4, 4), (0, 4), (1, 2)], [(0, 0), (1, 2), (4, 0), (4, 4), (0, 4)]),
    # The same but for one corner, which stands out as far as the other's stands in.
    ([(0, 0), (4, 0), (6, 2), (4, 4), (0, 4)], [(0, 0), (4, 0), (2, 2), (4, 4), (0, 4)]),
]


class Alike(unittest.TestCase):
    def leads(self, one, other, told):
        self.assertIs(type(told), tuple, (one, other))
        self.assertEqual([type(number) for number in told], [int] * 6)
        self.assertIn(told[0] * told[3] - told[1] * told[2], (1, -1))
        self.assertIn(led(one, told), every_telling(other))

    def holds(self, one, other):
        with self.subTest(one=one, other=other):
            self.leads(one, other, alike(one, other))
            self.leads(other, one, alike(other, one))

    def fails(self, one, other):
        with self.subTest(one=one, other=other):
            self.assertIsNone(alike(one, other))
            self.assertIsNone(alike(other, one))

    def test_a_fence_and_itself(self):
        for corners in FENCES + [UNEVEN] + grown_fences(9):
            for telling in every_telling(corners):
                self.holds(corners, telling)

    def test_the_one_turning_that_does_it(self):
        for turning in SMALL_TURNINGS + GREAT_TURNINGS:
            other = led(UNEVEN, turning)
            for telling in every_telling(UNEVEN):
                for other_telling in every_telling(other):
                    self.assertEqual(alike(telling, other_telling), turning)

    def test_led_by_a_turning(self):
        for corners in FENCES + [UNEVEN]:
            for turning in SMALL_TURNINGS + GREAT_TURNINGS:
                for telling in every_telling(led(corners, turning)):
                    self.holds(corners, telling)

    def test_led_by_very_great_turnings(self):
        for a, b, c, d in ((FAR, FAR - 1, 1, 1), (FAR, FAR + 1, FAR - 1, FAR), (-FAR, FAR + 1, FAR - 1, -FAR)):
            for corners in (TRIANGLE, STRAIGHT_CORNERS, moved(COMB, FAR, -FAR), taken(UNEVEN, FAR // 10)):
                for telling in every_telling(led(corners, (a, b, c, d, -FAR, FAR)))[::3]:
                    self.holds(corners, telling)

    def test_led_fences_as_the_lots_fall(self):
        for k, corners in enumerate(grown_fences(9) + grown_fences(14)):
            for turning in (SMALL_TURNINGS + GREAT_TURNINGS)[k % 5::5]:
                self.holds(corners, every_telling(led(corners, turning))[k % 6])

    def test_all_least_triangles(self):
        self.holds([(0, 0), (1, 0), (0, 1)], [(-FAR, -FAR), (FAR - 1, FAR - 2), (FAR, FAR - 1)])
        self.holds([(0, 0), (FAR, FAR - 1), (1, 1)], [(-FAR, -FAR), (FAR - 1, FAR - 2), (FAR, FAR - 1)])

    def test_another_number_of_corners(self):
        # The same points on the rim and inside; only straight corners are told or left out.
        self.fails(SQUARE, [(0, 0), (3, 0), (6, 0), (6, 6), (0, 6)])
        self.fails(STRAIGHT_CORNERS, [(0, 0), (6, 0), (6, 4), (0, 4)])
        self.fails(TRIANGLE, SQUARE)
        self.fails(TRIANGLE, [(0, 0), (4, 0), (0, 3), (0, 2)])
        self.fails(COMB, COMB[:11])

    def test_not_alike(self):
        for one, other in NOT_ALIKE:
            self.assertTrue(oracle.is_fence(one) and oracle.is_fence(other), (one, other))
            for telling in every_telling(other):
                self.fails(one, telling)
                self.fails(moved(taken(one, FAR // 50), FAR, 0), taken(telling, FAR // 50))
            for turning in SMALL_TURNINGS + GREAT_TURNINGS:
                self.fails(one, led(other, turning))
        self.fails(COMB, SPIRAL)
        self.fails(SQUARE, ARROW)

    def test_one_corner_moved_by_a_little(self):
        distant = [taken(UNEVEN, FAR // 10), moved(COMB, -FAR, FAR)]
        for corners in [UNEVEN, COMB, SPIRAL, STRAIGHT_CORNERS] + distant:
            for k in range(len(corners)):
                for x, y in ((1, 0), (0, 1), (-1, -1)):
                    other = list(corners)
                    other[k] = (other[k][0] + x, other[k][1] + y)
                    if oracle.is_fence(other) and oracle.double_area(other) != oracle.double_area(corners):
                        self.fails(corners, other)
                        self.fails(corners, led(other_way_round(other), SMALL_TURNINGS[8]))

    def test_one_corner_moved_and_the_area_kept(self):
        # A corner that is moved along the line between its neighbours leaves the double area as it was.
        self.fails(UNEVEN, UNEVEN[:1] + [(2, 0)] + UNEVEN[2:])
        for k in (1, FAR // 10):
            one = taken([(0, 0), (10, 0), (11, 3), (8, 9), (1, 7)], k)
            for x in (-1, 1, 2):
                other = one[:2] + [(one[2][0] - 2 * x, one[2][1] + 9 * x)] + one[3:]
                self.assertEqual(oracle.double_area(one), oracle.double_area(other))
                self.fails(one, other)
                self.fails(led(one, GREAT_TURNINGS[3]), other_way_round(other))


def least_telling(corners):
    """The same one for every telling of a fence, and wherever it is moved."""
    left, low = min(x for x, y in corners), min(y for x, y in corners)
    return min(tuple(telling) for telling in every_telling(moved(corners, -left, -low)))


def small_fences(count):
    field = [(x, y) for x in range(3) for y in range(3)]
    found = {least_telling(list(points)) for points in itertools.permutations(field, count) if oracle.is_fence(points)}
    return [list(corners) for corners in sorted(found)]


def all_alike(corners):
    """The least telling of every fence of a field of 3 by 3 points that is alike to this one, which
    lies in such a field too."""
    # The numbers that lead such a fence to another one are at most 8.
    numbers = range(-8, 9)
    rows = []
    for a, b in itertools.product(numbers, numbers):
        reached = [a * x + b * y for x, y in corners]
        if max(reached) - min(reached) <= 2:
            rows.append((a, b))
    return {least_telling(led(corners, one + other + (0, 0))) for one in rows for other in rows
            if oracle.cross(one, other) in (1, -1)}


class AllSmallFences(unittest.TestCase):
    def test_every_pair(self):
        pairs = 0
        for count in (3, 4):
            fences = small_fences(count)
            for one in fences:
                wanted = all_alike(one)
                for other in fences:
                    told = alike(one, other)
                    self.assertEqual(told is not None, tuple(other) in wanted, (one, other))
                    if told is not None:
                        self.assertIn(led(one, told), every_telling(other))
                        pairs += one != other
        self.assertGreater(pairs, 1000)


if __name__ == "__main__":
    unittest.main()
