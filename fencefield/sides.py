"""Straight sides between whole points: how a point lies to them, whether they meet, and their whole points.

Everything is worked out in whole numbers, so every answer is exact at any distance.
"""


# Above nought where the point lies to the left of who walks from start to end,
# below nought to the right, nought on the straight line through both.
def turn(start, end, point):
    across = (end[0] - start[0]) * (point[1] - start[1])
    along = (end[1] - start[1]) * (point[0] - start[0])
    return across - along


def between(one, number, other):
    return min(one, other) <= number <= max(one, other)


def lies_on(start, end, point):
    if not between(start[0], point[0], end[0]) or not between(start[1], point[1], end[1]):
        return False
    return turn(start, end, point) == 0


# Whether the two points lie on either side of the line through start and end, neither upon it.
def parts(start, end, one, other):
    return turn(start, end, one) * turn(start, end, other) < 0


def sides_meet(start, end, other_start, other_end):
    # Sides that touch or overlap always have an end of the one upon the other.
    if lies_on(start, end, other_start) or lies_on(start, end, other_end):
        return True
    if lies_on(other_start, other_end, start) or lies_on(other_start, other_end, end):
        return True
    return parts(start, end, other_start, other_end) and parts(other_start, other_end, start, end)


# Two sides with one corner in common share more than it only if both lead from it the same way.
def goes_back(before, corner, after):
    if turn(before, corner, after) != 0:
        return False
    across = (before[0] - corner[0]) * (after[0] - corner[0])
    upward = (before[1] - corner[1]) * (after[1] - corner[1])
    return across + upward > 0


# Whether the side meets what lies straight to the right of the point, which is not on the side.
# The lower end belongs to the side and the upper one doesn't: so a corner that is level with
# the point counts twice or not at all where the fence only touches the row, and once where it
# goes through.
def meets_rightward(start, end, point):
    if (start[1] > point[1]) == (end[1] > point[1]):
        return False
    return (turn(start, end, point) > 0) == (end[1] > start[1])


# How many whole points lie on the side, of its two ends the one alone: so the sides of a fence
# share none. It is the greatest number that divides both ways of the side, found by Euclid's rule.
def whole_points(start, end):
    one = abs(end[0] - start[0])
    other = abs(end[1] - start[1])
    while other > 0:
        rest = one % other
        one = other
        other = rest
    return one
