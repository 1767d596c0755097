"""Fences made greater, fences that are led elsewhere by a turning, and fences that are alike."""

from fencefield.counts import rim
from fencefield.errors import NoTurning
from fencefield.fences import double_area, refuse_no_fence
from fencefield.sides import turn


def greater(corners, k):
    refuse_no_fence(corners)
    return [(corner[0] * k, corner[1] * k) for corner in corners]


def greater_counts(corners, k):
    wide = k * k * double_area(corners)
    round_about = k * rim(corners)
    return ((wide + round_about) // 2 + 1, (wide - round_about) // 2 + 1)


def turned(corners, turning):
    refuse_no_fence(corners)
    if not is_turning(turning):
        raise NoTurning("these six numbers are no turning")
    return led(corners, turning)


def alike(one, other):
    refuse_no_fence(one)
    refuse_no_fence(other)
    if len(one) != len(other):
        return None
    bent = bent_first(one)
    for wanted in rotations(other) + rotations(list(reversed(other))):
        turning = turning_between(bent, wanted)
        if is_turning(turning) and led(bent, turning) == wanted:
            return turning
    return None


def is_turning(turning):
    return abs(turning[0] * turning[3] - turning[1] * turning[2]) == 1


def led(points, turning):
    return [led_point(point, turning) for point in points]


def led_point(point, turning):
    x = turning[0] * point[0] + turning[1] * point[1] + turning[4]
    y = turning[2] * point[0] + turning[3] * point[1] + turning[5]
    return (x, y)


def rotations(corners):
    return [corners[k:] + corners[:k] for k in range(len(corners))]


# Three points on a line don't settle a turning, so the fence is told from where its first three bend.
def bent_first(corners):
    return [told for told in rotations(corners) if turn(told[0], told[1], told[2]) != 0][0]


# The only turning that can lead the first three points, which bend, to the first three wanted ones.
# Where none in whole numbers does, the divisions leave a rest and the answer misses them.
def turning_between(points, wanted):
    across = coefficients(points, [point[0] for point in wanted])
    upward = coefficients(points, [point[1] for point in wanted])
    return (across[0], across[1], upward[0], upward[1], across[2], upward[2])


# What x, y and one are to be taken by so that, together, they give the wanted number at each of
# the first three points.
def coefficients(points, wanted):
    corner = points[0]
    second = (points[1][0] - corner[0], points[1][1] - corner[1], wanted[1] - wanted[0])
    third = (points[2][0] - corner[0], points[2][1] - corner[1], wanted[2] - wanted[0])
    area = turn(corner, points[1], points[2])
    by_x = (second[2] * third[1] - third[2] * second[1]) // area
    by_y = (second[0] * third[2] - third[0] * second[2]) // area
    return (by_x, by_y, wanted[0] - by_x * corner[0] - by_y * corner[1])
