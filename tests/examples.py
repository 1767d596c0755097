"""Fences and turnings that several tests share, and ways to tell the same fence otherwise."""

from tests import oracle

FAR = 10 ** 40

TRIANGLE = [(0, 0), (4, 0), (0, 3)]
SQUARE = [(0, 0), (6, 0), (6, 6), (0, 6)]
# The corners (3, 0) and (0, 2) lie straight between their neighbours.
STRAIGHT_CORNERS = [(0, 0), (3, 0), (6, 0), (6, 4), (0, 4), (0, 2)]
ARROW = [(0, 0), (5, 2), (10, 0), (5, 9)]
COMB = [(0, 0), (10, 0), (10, 5), (8, 5), (8, 1), (6, 1), (6, 5), (4, 5), (4, 1), (2, 1), (2, 5), (0, 5)]
SPIRAL = [(0, 0), (10, 0), (10, 10), (0, 10), (0, 4), (6, 4), (6, 6), (2, 6), (2, 8), (8, 8), (8, 2), (0, 2)]

# Each of them as it goes left round, with its double area.
LEFT_ROUND = [(TRIANGLE, 12), (SQUARE, 72), (STRAIGHT_CORNERS, 48), (ARROW, 70), (COMB, 68), (SPIRAL, 136)]

SMALL_TURNINGS = [
    (1, 0, 0, 1, 0, 0), (0, -1, 1, 0, 0, 0), (-1, 0, 0, -1, 2, 9), (-1, 0, 0, 1, 3, -4), (0, 1, 1, 0, 5, 6),
    (1, 3, 0, 1, 0, 0), (1, 0, -5, 1, -8, 0), (2, 1, 1, 1, -7, 2), (3, 5, -2, -3, 0, 1), (2, 3, 3, 4, 1, -1),
]
# The last two mix x and y, by numbers of up to forty figures.
GREAT_TURNINGS = [
    (1, 0, 0, 1, FAR, -FAR), (1, FAR // 20, 0, -1, 0, 7), (1, 0, -FAR // 20, 1, -FAR, FAR),
    (1 + 3 * 10 ** 37, 3 * 10 ** 18, 10 ** 19, 1, 5, FAR),
    (10 ** 18 + 7, 1 - 10 ** 20 * (10 ** 18 + 7), 1, -10 ** 20, -FAR, 0),
]


def from_every_corner(corners):
    return [corners[k:] + corners[:k] for k in range(len(corners))]


def other_way_round(corners):
    return list(reversed(corners))


def every_telling(corners):
    return from_every_corner(corners) + from_every_corner(other_way_round(corners))


def moved(corners, x, y):
    return [(corner[0] + x, corner[1] + y) for corner in corners]


def taken(corners, k):
    return [(corner[0] * k, corner[1] * k) for corner in corners]


def led(corners, turning):
    a, b, c, d, e, f = turning
    return [(a * x + b * y + e, c * x + d * y + f) for x, y in corners]


class Lots:
    """Numbers in a fixed disorder, the same ones at each run and on each Python."""

    def __init__(self, first):
        self.state = first

    def number(self, most):
        self.state = (self.state * 6364136223846793005 + 1442695040888963407) % 2 ** 64
        return (self.state >> 33) % (most + 1)

    def point(self, reach):
        return (self.number(reach), self.number(reach))


def grown_fence(lots, count, reach):
    """A fence of so many corners, bent inward and outward as the lots fall."""
    corners = []
    while not oracle.is_fence(corners):
        corners = [lots.point(reach) for k in range(3)]
    while len(corners) < count:
        k = lots.number(len(corners))
        bent = corners[:k] + [lots.point(reach)] + corners[k:]
        if oracle.is_fence(bent):
            corners = bent
    return corners


def grown_fences(reach):
    """Some of each number of corners."""
    lots = Lots(reach)
    return [grown_fence(lots, count, reach) for count in range(3, 13) for k in range(6)]
