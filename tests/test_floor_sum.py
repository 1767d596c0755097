"""Promise 7: floor sums."""

import unittest

from fencefield.counts import floor_sum
from tests.examples import FAR

# Counts, divisors, steps and starts of thirty figures and more.
GREAT = [10 ** 29, 10 ** 30 - 1, 271828182845904523536028747135, 577215664901532860606512090082, FAR]
STEPS = [0, 1, -1, 7, -7] + GREAT + [-number for number in GREAT]
STARTS = [0, 1, -1, 314159265358979323846264338327, -141421356237309504880168872420, FAR, -FAR]


def one_by_one(count, below, step, start):
    return sum((step * i + start) // below for i in range(count))


class FloorSum(unittest.TestCase):
    def test_by_hand(self):
        self.assertEqual(floor_sum(4, 10, 6, 3), 3)
        self.assertEqual(floor_sum(5, 2, 1, 0), 4)
        self.assertEqual(floor_sum(3, 2, -1, 0), -2)
        self.assertEqual(floor_sum(1, 5, 100, -1), -1)
        self.assertEqual(floor_sum(1, 5, -100, 14), 2)

    def test_against_the_sum_one_by_one(self):
        for count in range(8):
            for below in range(1, 9):
                for step in range(-17, 18):
                    for start in range(-19, 20, 2):
                        told = floor_sum(count, below, step, start)
                        self.assertEqual(told, one_by_one(count, below, step, start), (count, below, step, start))

    def test_longer_sums_one_by_one(self):
        for count in (90, 200, 201):
            for below in (1, 13, 64, 97, 1000):
                for step in (-98, -64, -5, 0, 1, 12, 55, 63, 998):
                    for start in (-1001, -1, 0, 1, 62, 999, 12345):
                        told = floor_sum(count, below, step, start)
                        self.assertIs(type(told), int)
                        self.assertEqual(told, one_by_one(count, below, step, start), (count, below, step, start))

    def test_great_numbers_in_short_sums(self):
        for count in (0, 1, 2, 3, 40):
            for below in [1, 2] + GREAT:
                for step in STEPS:
                    for start in STARTS:
                        told = floor_sum(count, below, step, start)
                        self.assertEqual(told, one_by_one(count, below, step, start), (count, below, step, start))

    def test_two_counts_together(self):
        for count in GREAT:
            for more in (1, 10 ** 29 + 3, FAR):
                for below in [1, 2, 10 ** 6 + 3] + GREAT:
                    for step in STEPS:
                        for start in STARTS:
                            both = floor_sum(count + more, below, step, start)
                            first = floor_sum(count, below, step, start)
                            second = floor_sum(more, below, step, start + step * count)
                            self.assertEqual(both, first + second, (count, more, below, step, start))

    def test_a_step_or_a_start_greater_by_some_divisors(self):
        for count in [0, 1, 2] + GREAT:
            for below in [1, 2, 10 ** 6 + 3] + GREAT:
                for step in STEPS:
                    for start in STARTS:
                        told = floor_sum(count, below, step, start)
                        for times in (-3, 1, 10 ** 30 + 7):
                            steeper = floor_sum(count, below, step + times * below, start)
                            self.assertEqual(steeper, told + times * (count * (count - 1) // 2))
                            higher = floor_sum(count, below, step, start + times * below)
                            self.assertEqual(higher, told + times * count)

    def test_known_sums_of_many(self):
        for count in GREAT:
            self.assertEqual(floor_sum(count, count, 1, 0), 0)
            self.assertEqual(floor_sum(count, count, 1, 1), 1)
            self.assertEqual(floor_sum(count, count, -1, 0), 1 - count)
            self.assertEqual(floor_sum(3 * count, count, 1, 0), 3 * count)
            self.assertEqual(floor_sum(count, 1, 1, 0), count * (count - 1) // 2)
            # Step and divisor have no divisor in common: the rests are all numbers below the count.
            self.assertEqual(floor_sum(count, count, count - 1, 0), (count - 1) * (count - 2) // 2)
            self.assertEqual(floor_sum(count, count, count + 1, 0), count * (count - 1) // 2)

    def test_the_worst_for_euclid(self):
        # Neighbours in Fibonacci's row take the most steps; they have no divisor in common.
        one, other = 1, 1
        while other < 10 ** 100:
            one, other = other, one + other
        self.assertEqual(floor_sum(other, other, one, 0), (one - 1) * (other - 1) // 2)
        self.assertEqual(floor_sum(other, other, -one, 0), -one * (other - 1) + (one - 1) * (other - 1) // 2)

    def test_a_count_of_nought(self):
        for below in (1, 3, FAR):
            for step in STEPS:
                for start in STARTS:
                    self.assertEqual(floor_sum(0, below, step, start), 0)


if __name__ == "__main__":
    unittest.main()
