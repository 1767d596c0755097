"""Promise 1: nothing that is handed in is changed, nothing hangs on it later, and lists that are told are new ones."""

import copy
import unittest

from fencefield.counts import inside, rim, row_counts
from fencefield.cutting import least_triangles
from fencefield.errors import NoFence, NoTurning, TooWide
from fencefield.fences import double_area, goes_left, is_fence, where
from fencefield.turning import alike, greater, greater_counts, turned
from tests.examples import COMB, LEFT_ROUND, SQUARE, STRAIGHT_CORNERS, TRIANGLE, other_way_round
from tests.test_is_fence import NO_FENCES

STAY = (1, 0, 0, 1, 0, 0)
SWAP = (0, 1, 1, 0, 0, 0)

ASKED = [is_fence, double_area, goes_left, lambda corners: where(corners, (1, 1)),
         lambda corners: where(corners, (0, 0)), lambda corners: where(corners, (-9, 1)),
         rim, inside, lambda corners: row_counts(corners, 1),
         lambda corners: greater_counts(corners, 2)]

TELLING_LISTS = [lambda corners: greater(corners, 1), lambda corners: greater(corners, 5),
                 lambda corners: turned(corners, STAY), lambda corners: turned(corners, SWAP)]

TELLING_TURNINGS = [lambda corners: alike(corners, corners), lambda corners: alike(SQUARE, corners),
                    lambda corners: alike(corners, SQUARE), lambda corners: alike(corners, COMB)]

ALL = ASKED + TELLING_LISTS + TELLING_TURNINGS

CUT = [[(0, 0), (1, 0), (0, 1)], [(0, 1), (1, 0), (0, 0)],
       TRIANGLE, STRAIGHT_CORNERS, other_way_round(STRAIGHT_CORNERS)]


class Kept(unittest.TestCase):
    def test_fences_stay_as_they_were(self):
        for fence, area in LEFT_ROUND:
            for told in (fence, other_way_round(fence)):
                corners = list(told)
                for ask in ALL:
                    ask(corners)
                    self.assertEqual(corners, told)

    def test_fences_that_are_cut_or_refused_stay_as_they_were(self):
        for told in CUT:
            corners = list(told)
            least_triangles(corners)
            self.assertEqual(corners, told)
        corners = list(COMB)
        with self.assertRaises(TooWide):
            least_triangles(corners)
        with self.assertRaises(NoTurning):
            turned(corners, (2, 0, 0, 2, 0, 0))
        self.assertEqual(corners, COMB)

    def test_both_fences_that_are_held_against_each_other_stay(self):
        for one, area in LEFT_ROUND:
            for other, other_area in LEFT_ROUND:
                first, second = list(one), other_way_round(other)
                alike(first, second)
                self.assertEqual((first, second), (one, other_way_round(other)))

    def test_other_lists_stay_as_they_were(self):
        for told in NO_FENCES:
            corners = list(told)
            self.assertIs(is_fence(corners), False)
            self.assertEqual(corners, told)
            for ask in ALL[1:] + [least_triangles]:
                with self.assertRaises(NoFence):
                    ask(corners)
                self.assertEqual(corners, told)

    def test_asked_again_it_tells_the_same(self):
        for told in CUT:
            corners = list(told)
            first = [ask(corners) for ask in ALL + [least_triangles]]
            self.assertEqual([ask(corners) for ask in ALL + [least_triangles]], first)

    def test_a_list_that_was_changed_is_told_as_it_is_now(self):
        corners = list(SQUARE)
        told = [ask(corners) for ask in ASKED]
        first = [True, 72, True, "inside", "rim", "outside", 24, 25, (5, 2), (169, 121)]
        self.assertEqual(told, first)
        corners.reverse()
        self.assertEqual([ask(corners) for ask in ASKED], first[:2] + [False] + first[3:])
        corners[:] = [(-1, -1), (-1, -2), (-2, -1)]
        self.assertEqual([ask(corners) for ask in ASKED],
                         [True, 1, False, "outside", "outside", "outside", 3, 0, (0, 0), (6, 0)])
        self.assertEqual(told, first)

    def test_a_list_that_is_no_fence_any_more(self):
        corners = list(SQUARE)
        for ask in ALL:
            ask(corners)
        corners.append((3, 0))
        self.assertIs(is_fence(corners), False)
        for ask in ALL[1:] + [least_triangles]:
            with self.assertRaises(NoFence):
                ask(corners)
        corners.pop()
        self.assertEqual(double_area(corners), 72)

    def test_nothing_that_was_told_hangs_on_what_was_handed_in(self):
        for fence in CUT:
            for ask in ALL + [least_triangles]:
                corners = list(fence)
                told = ask(corners)
                before = copy.deepcopy(told)
                corners.reverse()
                corners[0] = (77, 77)
                corners.append((-5, 8))
                self.assertEqual(told, before)
                corners.clear()
                self.assertEqual(told, before)

    def test_a_fence_that_alike_was_handed_may_be_changed(self):
        one, other = list(SQUARE), other_way_round(SQUARE)
        self.assertIsNotNone(alike(one, other))
        other[0] = (0, 7)
        self.assertIsNone(alike(one, other))
        one[:] = COMB
        other[:] = other_way_round(COMB)
        self.assertIsNotNone(alike(one, other))


class NewLists(unittest.TestCase):
    def test_changing_what_was_told_changes_nothing(self):
        for fence in CUT:
            for ask in TELLING_LISTS + [least_triangles]:
                corners = list(fence)
                told = ask(corners)
                before = copy.deepcopy(told)
                self.assertIsNot(told, corners)
                told.reverse()
                told.append((5, 5))
                self.assertEqual(corners, fence)
                self.assertEqual(ask(corners), before)

    def test_each_triangle_is_a_list_of_its_own(self):
        for fence in CUT:
            corners = list(fence)
            first, second = least_triangles(corners), least_triangles(corners)
            lists = [corners] + first + second
            self.assertEqual(len({id(told) for told in lists}), len(lists))
            before = copy.deepcopy(second)
            for triangle in first:
                triangle[:] = []
            self.assertEqual(corners, fence)
            self.assertEqual(second, before)
            self.assertEqual(least_triangles(corners), before)


if __name__ == "__main__":
    unittest.main()
