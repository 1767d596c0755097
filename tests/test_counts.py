"""Promises 5 and 6: how many whole points lie on the rim, inside, and on a row."""

import unittest

from fencefield.counts import inside, rim, row_counts
from fencefield.fences import double_area
from tests import oracle
from tests.examples import (ARROW, COMB, FAR, GREAT_TURNINGS, LEFT_ROUND, SMALL_TURNINGS, SPIRAL, SQUARE,
                            STRAIGHT_CORNERS, TRIANGLE, every_telling, grown_fences, led, moved, other_way_round, taken)

# Inside and on the rim.
COUNTS = [(TRIANGLE, 3, 8), (SQUARE, 25, 24), (STRAIGHT_CORNERS, 15, 20), (ARROW, 34, 4), (COMB, 12, 46),
          (SPIRAL, 33, 72)]

# Level parts with straight corners within, level parts one behind another on a row, and tips that touch
# a row from above and from below.
ROWS = [
    [(0, 0), (2, 0), (5, 0), (9, 0), (9, 4), (6, 4), (4, 4), (0, 4)],
    [(0, 0), (2, 0), (2, 2), (4, 2), (4, 0), (6, 0), (6, 4), (0, 4)],
    [(0, 4), (1, 0), (2, 2), (3, 0), (4, 2), (5, 0), (6, 4)],
    [(0, 0), (8, 0), (6, 3), (5, 1), (4, 3), (3, 1), (2, 3)],
    [(0, 0), (3, 2), (6, 0), (9, 2), (12, 0), (9, 5), (6, 2), (3, 5)],
    [(0, 0), (4, 2), (8, 2), (12, 0), (12, 2), (9, 4), (6, 3), (3, 4), (0, 2)],
    [(0, 0), (9, 1), (7, 3), (8, 3), (10, 1), (11, 5), (1, 4)],
]


class RimAndInside(unittest.TestCase):
    def holds(self, corners, inside_count, rim_count):
        with self.subTest(corners=corners):
            told = (inside(corners), rim(corners))
            self.assertEqual(told, (inside_count, rim_count))
            self.assertEqual([type(number) for number in told], [int, int])

    def test_in_every_telling(self):
        for corners, inside_count, rim_count in COUNTS:
            for telling in every_telling(corners):
                self.holds(telling, inside_count, rim_count)

    def test_all_examples_are_fences(self):
        for corners in ROWS:
            self.assertTrue(oracle.is_fence(corners), corners)

    def test_against_going_through_all_points(self):
        for corners in [corners for corners, area in LEFT_ROUND] + ROWS + grown_fences(9) + grown_fences(14):
            inside_count, rim_count = oracle.counts(corners)
            self.holds(corners, inside_count, rim_count)
            self.holds(other_way_round(corners), inside_count, rim_count)
            self.holds(moved(corners, -6, -5), inside_count, rim_count)

    def test_least(self):
        for telling in every_telling([(5, 5), (6, 5), (5, 6)]):
            self.holds(telling, 0, 3)
        for telling in every_telling([(0, 0), (2, 1), (1, 2)]):
            self.holds(telling, 1, 3)

    def test_led_by_a_turning(self):
        for corners, inside_count, rim_count in COUNTS:
            for turning in SMALL_TURNINGS + GREAT_TURNINGS:
                self.holds(led(corners, turning), inside_count, rim_count)

    def test_far_apart(self):
        for corners, inside_count, rim_count in COUNTS:
            for k in (FAR // 10, FAR, FAR - 1):
                area = double_area(corners)
                for telling in every_telling(taken(corners, k)):
                    self.holds(telling, (k * k * area - k * rim_count) // 2 + 1, k * rim_count)

    def test_long_sides_with_few_whole_points(self):
        for telling in every_telling([(-FAR, -FAR), (FAR, FAR - 1), (0, 0)]):
            self.holds(telling, 0, FAR + 2)
        for telling in every_telling([(-FAR, -FAR), (FAR - 1, FAR - 2), (FAR, FAR - 1)]):
            self.holds(telling, 0, 3)
        # 10 ** 40 leaves a rest of one when it is divided by three.
        for telling in every_telling([(0, 0), (FAR, 3), (0, 3)]):
            self.holds(telling, FAR - 1, FAR + 4)

    def test_the_two_counts_and_the_double_area(self):
        fences = [corners for corners, area in LEFT_ROUND] + ROWS + grown_fences(9)
        stretched = [[(FAR // 20 * x - y, (FAR // 30 + 1) * y + x) for x, y in corners] for corners in fences]
        for corners in fences + stretched + [taken(corners, FAR // 20) for corners in fences]:
            self.assertEqual(2 * inside(corners) + rim(corners), double_area(corners) + 2, corners)

    def test_somewhat_beyond(self):
        beyond = 10 ** 45
        self.holds([(-beyond, -1), (beyond, -1), (0, 1)], beyond - 1, 2 * beyond + 4)


class RowCounts(unittest.TestCase):
    def holds(self, corners, y, wanted):
        with self.subTest(corners=corners, y=y):
            told = row_counts(corners, y)
            self.assertIs(type(told), tuple)
            self.assertEqual(told, wanted)
            self.assertEqual([type(number) for number in told], [int, int])

    def test_by_hand(self):
        for telling in every_telling(COMB):
            for y, wanted in enumerate([(0, 0), (0, 11), (3, 8), (3, 6), (3, 6), (3, 6), (0, 9), (0, 0)], start=-1):
                self.holds(telling, y, wanted)
        for telling in every_telling(TRIANGLE):
            for y, wanted in enumerate([(0, 0), (0, 5), (2, 1), (1, 1), (0, 1), (0, 0)], start=-1):
                self.holds(telling, y, wanted)

    def test_against_going_through_the_row(self):
        for corners in [corners for corners, area in LEFT_ROUND] + ROWS:
            for y in oracle.rows(corners):
                wanted = oracle.row_counts(corners, y)
                for telling in every_telling(corners):
                    self.holds(telling, y, wanted)

    def test_led_by_a_turning(self):
        for corners in [corners for corners, area in LEFT_ROUND] + ROWS:
            for turning in SMALL_TURNINGS[:7]:
                other = led(corners, turning)
                for y in oracle.rows(other):
                    self.holds(other, y, oracle.row_counts(other, y))

    def test_fences_as_the_lots_fall(self):
        for corners in grown_fences(9) + grown_fences(14):
            for y in oracle.rows(corners):
                self.holds(corners, y, oracle.row_counts(corners, y))

    def test_rows_slid_very_far(self):
        # Each row is slid along itself, each by more than the one below: its points stay as many.
        for corners in [corners for corners, area in LEFT_ROUND] + ROWS + grown_fences(9):
            for a, b, d, f in ((1, FAR // 20, 1, 0), (1, -FAR // 20, 1, -FAR), (-1, FAR // 30, -1, FAR)):
                other = led(corners, (a, b, 0, d, -f, f))
                for y in oracle.rows(corners):
                    self.holds(other, d * y + f, oracle.row_counts(corners, y))

    def test_very_wide(self):
        for telling in every_telling([(-FAR, 0), (FAR, 0), (0, 3)]):
            self.holds(telling, -1, (0, 0))
            self.holds(telling, 0, (0, 2 * FAR + 1))
            self.holds(telling, 1, (2 * (2 * FAR // 3) + 1, 0))
            self.holds(telling, 2, (2 * (FAR // 3) + 1, 0))
            self.holds(telling, 3, (0, 1))
            self.holds(telling, FAR, (0, 0))
        k = FAR // 10
        for telling in every_telling(taken(COMB, k)):
            self.holds(telling, 0, (0, 10 * k + 1))
            self.holds(telling, 1, (10 * k - 1, 2))
            self.holds(telling, k, (3 * (2 * k - 1), 2 * (2 * k + 1) + 2))
            self.holds(telling, k + 1, (3 * (2 * k - 1), 6))
            self.holds(telling, 5 * k, (0, 3 * (2 * k + 1)))
            self.holds(telling, 5 * k + 1, (0, 0))

    def test_very_wide_and_high(self):
        for telling in every_telling([(-FAR, -FAR), (FAR, FAR - 1), (-FAR, FAR)]):
            self.holds(telling, -FAR, (0, 1))
            self.holds(telling, 0, (FAR, 1))
            self.holds(telling, -1, (FAR - 1, 1))
            # The second side rises by 1 on a way of 2 * FAR.
            self.holds(telling, FAR - 1, (2 * FAR - 1, 2))
            self.holds(telling, FAR, (0, 1))

    def test_all_rows_together(self):
        for corners in [corners for corners, area in LEFT_ROUND] + ROWS + grown_fences(14):
            for k, slide in ((1, 0), (3, 1), (FAR // 20, 1), (FAR // 20 - 1, FAR // 30)):
                wide = [(k * x + slide * y, y) for x, y in corners]
                told = [row_counts(wide, y) for y in oracle.rows(wide)]
                self.assertEqual(sum(number for number, other in told), inside(wide), wide)
                self.assertEqual(sum(number for other, number in told), rim(wide), wide)


if __name__ == "__main__":
    unittest.main()
