"""Fences: what is one, its double area, which way round it goes, and where a point lies to it."""

from fencefield.errors import NoFence
from fencefield.sides import goes_back, lies_on, meets_rightward, sides_meet

FEWEST_CORNERS = 3
MOST_CORNERS = 12


def is_fence(corners):
    if len(corners) < FEWEST_CORNERS or len(corners) > MOST_CORNERS:
        return False
    if len(set(corners)) < len(corners):
        return False
    return not some_side_goes_back(corners) and not some_sides_meet(corners)


def double_area(corners):
    refuse_no_fence(corners)
    return abs(signed_double_area(corners))


def goes_left(corners):
    refuse_no_fence(corners)
    return signed_double_area(corners) > 0


def where(corners, point):
    refuse_no_fence(corners)
    return place_of(corners, point)


# What `where` tells, for those who have looked already that the corners are a fence.
def place_of(corners, point):
    sides = sides_of(corners)
    if any([lies_on(start, end, point) for start, end in sides]):
        return "rim"
    met = [side for side in sides if meets_rightward(side[0], side[1], point)]
    return "inside" if len(met) % 2 == 1 else "outside"


def refuse_no_fence(corners):
    if not is_fence(corners):
        raise NoFence("these corners are no fence")


def sides_of(corners):
    return list(zip(corners, corners[1:] + corners[:1]))


def some_side_goes_back(corners):
    for k in range(len(corners)):
        if goes_back(corners[k - 2], corners[k - 1], corners[k]):
            return True
    return False


def some_sides_meet(corners):
    sides = sides_of(corners)
    for k, side in enumerate(sides):
        # The first side and the last one have a corner in common, like each side and the next.
        behind = sides[k + 2:] if k > 0 else sides[2:-1]
        for other in behind:
            if sides_meet(side[0], side[1], other[0], other[1]):
                return True
    return False


# Above nought where the fence goes left round, below nought where it goes right round.
def signed_double_area(corners):
    return sum([start[0] * end[1] - end[0] * start[1] for start, end in sides_of(corners)])
