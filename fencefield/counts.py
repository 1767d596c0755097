"""Counts of whole points: on the rim of a fence, inside it, and on one row of it; and floor sums."""

from fencefield.fences import double_area, place_of, refuse_no_fence, sides_of
from fencefield.sides import between, whole_points


def rim(corners):
    refuse_no_fence(corners)
    return sum([whole_points(start, end) for start, end in sides_of(corners)])


# Twice the inside count and the rim count together are the double area and two.
def inside(corners):
    return (double_area(corners) + 2 - rim(corners)) // 2


def row_counts(corners, y):
    refuse_no_fence(corners)
    stops = row_stops(corners, y)
    found = {"inside": 0, "rim": len([stop for stop in stops if stop % 2 == 0]), "outside": 0}
    for left, right in zip(stops, stops[1:]):
        # Only at a stop does the row come to the rim or leave it: so the first whole point
        # between two stops speaks for all of them there.
        found[place_of(corners, (left // 2 + 1, y))] += whole_between(left, right)
    return (found["inside"], found["rim"])


# Where the row meets sides that are not level with it, from left to right. The ends of level sides
# are among these stops, but for corners within a longer level part, which need none.
def row_stops(corners, y):
    met = [side for side in sides_of(corners) if side[0][1] != side[1][1] and between(side[0][1], y, side[1][1])]
    return sorted(set([row_stop(start, end, y) for start, end in met]))


# The x at which the side meets the row, rounded down and rounded up, both together: twice the x
# where it is whole, else the odd number between its two neighbours. So it has its place among
# the whole points without a fraction.
def row_stop(start, end, y):
    rise = end[1] - start[1]
    taken = start[0] * rise + (end[0] - start[0]) * (y - start[1])
    return taken // rise - (-taken) // rise


# How many whole points lie between two stops, neither of them counted.
def whole_between(left, right):
    return (right - 1) // 2 - left // 2


def floor_sum(count, below, step, start):
    total = 0
    while count > 0:
        total += step // below * (count * (count - 1) // 2) + start // below * count
        # What is left is the number of whole points beneath a line that rises by less than one
        # a step. Counted along the other axis they are a floor sum again, with the step and the
        # divisor changed about, and both fall as fast as by Euclid's rule.
        rise = step % below
        reach = rise * count + start % below
        count = reach // below
        start = reach % below
        step = below
        below = rise
    return total
