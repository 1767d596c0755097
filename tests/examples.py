"""Fences that several tests share, and ways to tell the same fence otherwise."""

FAR = 10 ** 40

TRIANGLE = [(0, 0), (4, 0), (0, 3)]
SQUARE = [(0, 0), (6, 0), (6, 6), (0, 6)]
# The corners (3, 0) and (0, 2) lie straight between their neighbours.
STRAIGHT_CORNERS = [(0, 0), (3, 0), (6, 0), (6, 4), (0, 4), (0, 2)]
ARROW = [(0, 0), (5, 2), (10, 0), (5, 9)]
COMB = [(0, 0), (10, 0), (10, 5), (8, 5), (8, 1), (6, 1), (6, 5), (4, 5), (4, 1), (2, 1), (2, 5), (0, 5)]
SPIRAL = [(0, 0), (10, 0), (10, 10), (0, 10), (0, 4), (6, 4), (6, 6), (2, 6), (2, 8), (8, 8), (8, 2), (0, 2)]

# Each of them as it goes left round, with its double area.
LEFT_ROUND = [(TRIANGLE, 12), (SQUARE, 72), (STRAIGHT_CORNERS, 48), (ARROW, 70), (COMB, 68), (SPIRAL, 136)]


def from_every_corner(corners):
    return [corners[k:] + corners[:k] for k in range(len(corners))]


def other_way_round(corners):
    return list(reversed(corners))


def every_telling(corners):
    return from_every_corner(corners) + from_every_corner(other_way_round(corners))


def moved(corners, x, y):
    return [(corner[0] + x, corner[1] + y) for corner in corners]


def taken(corners, k):
    return [(corner[0] * k, corner[1] * k) for corner in corners]
