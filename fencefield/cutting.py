"""Fences cut into least triangles."""

from fencefield.errors import TooWide
from fencefield.fences import double_area, goes_left, sides_of
from fencefield.sides import turn

WIDEST = 60


def least_triangles(corners):
    if double_area(corners) > WIDEST:
        raise TooWide("a fence of so great a double area is not cut")
    waiting = corner_triangles(corners if goes_left(corners) else list(reversed(corners)))
    least = []
    while len(waiting) > 0:
        triangle = waiting.pop()
        if doubled_area(triangle) == 1:
            least.append(triangle)
        else:
            waiting.extend(split_at(triangle, point_within(triangle)))
    return least


# The double area of a triangle that goes left round; below nought where it goes right round.
def doubled_area(triangle):
    return turn(triangle[0], triangle[1], triangle[2])


# Triangles whose corners are the fence's own. The corners go left round.
def corner_triangles(corners):
    rest = list(corners)
    triangles = []
    while len(rest) > 3:
        triangle = loose_triangle(rest)
        triangles.append(triangle)
        rest = [corner for corner in rest if corner != triangle[1]]
    return triangles + [rest]


# Every fence can be cut into triangles from corner to corner, so that each corner is one of theirs;
# of those at least two have two sides of the fence, and each of these can be taken off.
def loose_triangle(corners):
    triangles = [[corners[k - 2], corners[k - 1], corners[k]] for k in range(len(corners))]
    return [triangle for triangle in triangles if is_loose(triangle, corners)][0]


# A corner on the rim of the triangle bars it too: the cut would touch the rest of the fence there.
def is_loose(triangle, corners):
    others = [corner for corner in corners if corner not in triangle]
    return doubled_area(triangle) > 0 and not any([holds(triangle, corner) for corner in others])


def holds(triangle, point):
    return all([turn(start, end, point) >= 0 for start, end in sides_of(triangle)])


# A whole point of the triangle, none of its corners. It lies on the first side, if that has whole
# points between its ends. Else the row of whole points next to that side passes through the triangle
# on a length of one, less one part of as many as the double area, and meets a whole point there.
def point_within(triangle):
    parts = doubled_area(triangle)
    ways = [(along, 0) for along in range(1, parts)] + [(along, 1) for along in range(parts)]
    steps = [step_into(triangle, along, off) for along, off in ways]
    whole = [step for step in steps if step[0] % parts == 0 and step[1] % parts == 0]
    return (triangle[0][0] + whole[0][0] // parts, triangle[0][1] + whole[0][1] // parts)


# From the first corner, so many times the way to the second one and so many times that to the third.
def step_into(triangle, along, off):
    corner = triangle[0]
    x = along * (triangle[1][0] - corner[0]) + off * (triangle[2][0] - corner[0])
    y = along * (triangle[1][1] - corner[1]) + off * (triangle[2][1] - corner[1])
    return (x, y)


def split_at(triangle, point):
    pieces = [[triangle[0], triangle[1], point], [triangle[1], triangle[2], point], [triangle[2], triangle[0], point]]
    return [piece for piece in pieces if doubled_area(piece) > 0]
