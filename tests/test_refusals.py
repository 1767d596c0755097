"""Promise 2 and the interface: what is no fence is refused with NoFence, ahead of all else."""

import unittest

from fencefield.counts import inside, rim, row_counts
from fencefield.cutting import least_triangles
from fencefield.errors import NoFence
from fencefield.fences import double_area, goes_left, where
from fencefield.turning import alike, greater, greater_counts, turned
from tests.examples import COMB, FAR, LEFT_ROUND, SPIRAL, SQUARE, TRIANGLE, other_way_round, taken
from tests.refused import assert_refused
from tests.test_is_fence import NO_FENCES
from tests.test_turning import NO_TURNINGS

# Every function that is handed corners, but is_fence.
ASKED = [
    double_area, goes_left, rim, inside, least_triangles,
    lambda corners: where(corners, (1, 1)),
    lambda corners: where(corners, (-50, 90)),
    lambda corners: where(corners, corners[0] if corners else (0, 0)),
    lambda corners: row_counts(corners, 1),
    lambda corners: row_counts(corners, -FAR),
    lambda corners: greater(corners, 1),
    lambda corners: greater(corners, 10 ** 20),
    lambda corners: greater_counts(corners, 1),
    lambda corners: greater_counts(corners, 10 ** 20),
    lambda corners: turned(corners, (1, 0, 0, 1, 0, 0)),
    lambda corners: turned(corners, (0, 1, 1, 0, FAR, -FAR)),
    lambda corners: turned(corners, (0, 0, 0, 0, 0, 0)),
    lambda corners: turned(corners, (2, 0, 0, 1, 0, 0)),
    lambda corners: alike(corners, SQUARE),
    lambda corners: alike(TRIANGLE, corners),
    lambda corners: alike(corners, corners),
    lambda corners: alike(corners, other_way_round(corners)),
    lambda corners: alike(COMB, corners),
    lambda corners: alike(corners, SPIRAL),
]


class NoFences(unittest.TestCase):
    def refused(self, ask, corners):
        with self.subTest(corners=corners):
            assert_refused(self, NoFence, lambda: ask(corners))

    def test_every_function(self):
        for corners in NO_FENCES:
            for ask in ASKED:
                self.refused(ask, corners)
                self.refused(ask, other_way_round(corners))

    def test_far_apart(self):
        for corners in NO_FENCES:
            for ask in ASKED:
                self.refused(ask, taken(corners, FAR // 200))

    def test_every_corner_of_no_fence(self):
        for corners in NO_FENCES:
            for corner in corners:
                self.refused(lambda asked: where(asked, corner), corners)

    def test_ahead_of_no_turning(self):
        for turning in NO_TURNINGS:
            for corners in NO_FENCES:
                self.refused(lambda asked: turned(asked, turning), corners)

    def test_ahead_of_too_wide(self):
        # Wide ones, of which the corners of the outer line alone would be too wide.
        for corners in NO_FENCES:
            self.refused(least_triangles, taken(corners, 10))
        self.refused(least_triangles, [(0, 0), (100, 0), (100, 100), (50, 0), (0, 100)])
        self.refused(least_triangles, [(0, 0), (61, 0), (0, 1), (0, 0)])

    def test_alike_with_no_fence_in_either_place(self):
        for fence, area in LEFT_ROUND:
            for corners in NO_FENCES:
                self.refused(lambda asked: alike(asked, fence), corners)
                self.refused(lambda asked: alike(fence, asked), corners)
        for one in NO_FENCES:
            for other in NO_FENCES:
                self.refused(lambda asked: alike(asked, other), one)


if __name__ == "__main__":
    unittest.main()
