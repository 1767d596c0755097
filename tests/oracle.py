"""The document's words on fences, followed step by step with fractions: slow, and written apart
from the program, so that the two can be held against each other."""

from fractions import Fraction
from functools import lru_cache


def cross(a, b):
    return a[0] * b[1] - a[1] * b[0]


def less(a, b):
    return (a[0] - b[0], a[1] - b[1])


@lru_cache(maxsize=None)
def common_points(side, other):
    """Of two sides of some length: 'none', 'many', or the one point that they have in common."""
    way, other_way = less(side[1], side[0]), less(other[1], other[0])
    gap = less(other[0], side[0])
    if cross(way, other_way) != 0:
        t = Fraction(cross(gap, other_way), cross(way, other_way))
        u = Fraction(cross(gap, way), cross(way, other_way))
        if not (0 <= t <= 1 and 0 <= u <= 1):
            return "none"
        return (side[0][0] + t * way[0], side[0][1] + t * way[1])
    if cross(gap, way) != 0:
        return "none"
    # On one line, points are in the order of the tuples.
    low, high = max(min(side), min(other)), min(max(side), max(other))
    if low > high:
        return "none"
    return low if low == high else "many"


def sides(corners):
    return [(corners[k], corners[(k + 1) % len(corners)]) for k in range(len(corners))]


def is_fence(corners):
    if not 3 <= len(corners) <= 12 or len(set(corners)) != len(corners):
        return False
    all_sides = sides(corners)
    for k, side in enumerate(all_sides):
        for other in all_sides[:k]:
            shared = [corner for corner in side if corner in other]
            wanted = shared[0] if shared else "none"
            if common_points(side, other) != wanted:
                return False
    return True


def where(corners, point, reach=1000):
    """For corners and points with numbers well below the reach."""
    # So flat a line goes through no whole point near by but its first, and so along no side.
    ray = (point, (point[0] + reach, point[1] + 1))
    met = [common_points(side, ray) for side in sides(corners)]
    if point in met:
        return "rim"
    return "outside" if met.count("none") % 2 == len(met) % 2 else "inside"


def goes_left(corners):
    # The least corner is one at which the fence surely bends outward.
    k = corners.index(min(corners))
    before, after = corners[k - 1], corners[(k + 1) % len(corners)]
    return cross(less(corners[k], before), less(after, corners[k])) > 0
