"""Promise 1: nothing that is handed in is changed, and nothing hangs on it later."""

import unittest

from fencefield.errors import NoFence
from fencefield.fences import double_area, goes_left, is_fence, where
from tests.examples import COMB, LEFT_ROUND, SQUARE, other_way_round
from tests.test_fences import NO_FENCES

ASKED = [is_fence, double_area, goes_left, lambda corners: where(corners, (1, 1)),
         lambda corners: where(corners, (0, 0)), lambda corners: where(corners, (-9, 1))]


class Kept(unittest.TestCase):
    def test_fences_stay_as_they_were(self):
        for fence, area in LEFT_ROUND:
            for told in (fence, other_way_round(fence)):
                corners = list(told)
                for ask in ASKED:
                    ask(corners)
                    self.assertEqual(corners, told)

    def test_other_lists_stay_as_they_were(self):
        for told in NO_FENCES:
            corners = list(told)
            self.assertIs(is_fence(corners), False)
            self.assertEqual(corners, told)
            for ask in ASKED[1:]:
                with self.assertRaises(NoFence):
                    ask(corners)
                self.assertEqual(corners, told)

    def test_asked_again_it_tells_the_same(self):
        corners = list(COMB)
        first = [ask(corners) for ask in ASKED]
        self.assertEqual([ask(corners) for ask in ASKED], first)

    def test_a_list_that_was_changed_is_told_as_it_is_now(self):
        corners = list(SQUARE)
        told = [ask(corners) for ask in ASKED]
        self.assertEqual(told, [True, 72, True, "inside", "rim", "outside"])
        corners.reverse()
        self.assertEqual([ask(corners) for ask in ASKED], [True, 72, False, "inside", "rim", "outside"])
        corners[:] = [(-1, -1), (-1, -2), (-2, -1)]
        self.assertEqual([ask(corners) for ask in ASKED], [True, 1, False, "outside", "outside", "outside"])
        self.assertEqual(told, [True, 72, True, "inside", "rim", "outside"])

    def test_a_list_that_is_no_fence_any_more(self):
        corners = list(SQUARE)
        for ask in ASKED:
            ask(corners)
        corners.append((3, 0))
        self.assertIs(is_fence(corners), False)
        for ask in ASKED[1:]:
            with self.assertRaises(NoFence):
                ask(corners)
        corners.pop()
        self.assertEqual(double_area(corners), 72)


if __name__ == "__main__":
    unittest.main()
