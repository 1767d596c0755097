"""The document's words on fences, followed step by step with fractions: slow, and written apart
from the program, so that the two can be held against each other."""

from fractions import Fraction
from functools import lru_cache


def cross(a, b):
    return a[0] * b[1] - a[1] * b[0]


def less(a, b):
    return (a[0] - b[0], a[1] - b[1])


@lru_cache(maxsize=None)
def common_points(side, other):
    """Of two sides of some length: 'none', 'many', or the one point that they have in common."""
    way, other_way = less(side[1], side[0]), less(other[1], other[0])
    gap = less(other[0], side[0])
    if cross(way, other_way) != 0:
        t = Fraction(cross(gap, other_way), cross(way, other_way))
        u = Fraction(cross(gap, way), cross(way, other_way))
        if not (0 <= t <= 1 and 0 <= u <= 1):
            return "none"
        return (side[0][0] + t * way[0], side[0][1] + t * way[1])
    if cross(gap, way) != 0:
        return "none"
    # On one line, points are in the order of the tuples.
    low, high = max(min(side), min(other)), min(max(side), max(other))
    if low > high:
        return "none"
    return low if low == high else "many"


def sides(corners):
    return [(corners[k], corners[(k + 1) % len(corners)]) for k in range(len(corners))]


def is_fence(corners):
    if not 3 <= len(corners) <= 12 or len(set(corners)) != len(corners):
        return False
    all_sides = sides(corners)
    for k, side in enumerate(all_sides):
        for other in all_sides[:k]:
            shared = [corner for corner in side if corner in other]
            wanted = shared[0] if shared else "none"
            if common_points(side, other) != wanted:
                return False
    return True


def where(corners, point, reach=1000):
    """For corners and points with numbers well below the reach."""
    # So flat a line goes through no whole point near by but its first, and so along no side.
    ray = (point, (point[0] + reach, point[1] + 1))
    met = [common_points(side, ray) for side in sides(corners)]
    if point in met:
        return "rim"
    return "outside" if met.count("none") % 2 == len(met) % 2 else "inside"


def double_area(corners):
    return abs(sum(cross(start, end) for start, end in sides(corners)))


def goes_left(corners):
    # The least corner is one at which the fence surely bends outward.
    k = corners.index(min(corners))
    before, after = corners[k - 1], corners[(k + 1) % len(corners)]
    return cross(less(corners[k], before), less(after, corners[k])) > 0


def row_counts(corners, y):
    """Inside and on the rim, going through the points of the row."""
    across = [x for x, corner_y in corners]
    places = [where(corners, (x, y)) for x in range(min(across) - 1, max(across) + 2)]
    return (places.count("inside"), places.count("rim"))


def rows(corners):
    """All rows through the fence, and two below and above it."""
    upward = [y for x, y in corners]
    return range(min(upward) - 2, max(upward) + 3)


def counts(corners):
    """Inside and on the rim, going through all points."""
    found = [row_counts(corners, y) for y in rows(corners)]
    return (sum(inside for inside, rim in found), sum(rim for inside, rim in found))


def left_round(corners):
    return list(corners) if goes_left(corners) else list(reversed(corners))


def triangles_apart(one, other):
    """Whether two triangles have no inside points in common: then a side of one parts them."""
    for triangle, points in ((one, other), (other, one)):
        for start, end in sides(left_round(triangle)):
            if all(cross(less(end, start), less(point, start)) <= 0 for point in points):
                return True
    return False


def passes_through(side, triangle):
    """Whether points of the side lie inside the triangle."""
    low, high = Fraction(0), Fraction(1)
    for start, end in sides(left_round(triangle)):
        first, last = [cross(less(end, start), less(point, start)) for point in side]
        if first == last:
            if first <= 0:
                return False
        elif last > first:
            low = max(low, Fraction(-first, last - first))
        else:
            high = min(high, Fraction(-first, last - first))
    return low < high


def triangle_within(corners, triangle, reach):
    """Whether the triangle lies within the fence: its middle does, and no side passes through it."""
    # Taken three times, the middle of the triangle is a whole point.
    middle = tuple(map(sum, zip(*triangle)))
    threefold = [(3 * x, 3 * y) for x, y in corners]
    if where(threefold, middle, reach) != "inside":
        return False
    return not any(passes_through(side, triangle) for side in sides(corners))
