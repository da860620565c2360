"""Whether skeletons are far enough from one another: squares are compared, no roots are taken."""

from copperboard.skeletons import OUTSIDE, boxes_apart, sides_meet, turning, where_in_polygon


def square_between(a, b):
    return (a[0] - b[0]) * (a[0] - b[0]) + (a[1] - b[1]) * (a[1] - b[1])


def point_apart(point, side, gap):
    """Whether the point is the gap or more away from each point of the side."""
    begin = side.begin
    end = side.end
    length_square = square_between(begin, end)
    along = (point[0] - begin[0]) * (end[0] - begin[0]) + (point[1] - begin[1]) * (end[1] - begin[1])
    if along <= 0:
        return square_between(point, begin) >= gap * gap
    if along >= length_square:
        return square_between(point, end) >= gap * gap
    height = turning(begin, end, point)
    return height * height >= gap * gap * length_square


def sides_apart(first, second, gap):
    if boxes_apart(first.box, second.box, gap):
        return True
    if sides_meet(first, second):
        return False
    # Two sides that don't meet are nearest to one another at an end of one of them.
    return (
        point_apart(first.begin, second, gap)
        and point_apart(first.end, second, gap)
        and point_apart(second.begin, first, gap)
        and point_apart(second.end, first, gap)
    )


def holds_point(skeleton, point):
    """Whether the skeleton is a polygon that the point lies in."""
    return len(skeleton.points) > 2 and where_in_polygon(point, skeleton) != OUTSIDE


def far_from_sides(side, skeleton, gap):
    """Whether the side is the gap or more away from each side of the skeleton."""
    if boxes_apart(side.box, skeleton.box, gap):
        return True
    for other in skeleton.sides:
        if not sides_apart(side, other, gap):
            return False
    return True


def skeletons_apart(first, second, gap):
    """Whether the least distance between the two is the gap (1 or more) or above it."""
    if boxes_apart(first.box, second.box, gap):
        return True
    # If no sides meet, a skeleton lies within a polygon as a whole or not at all: one point of it tells.
    if holds_point(first, second.points[0]) or holds_point(second, first.points[0]):
        return False
    for side in first.sides:
        if not far_from_sides(side, second, gap):
            return False
    return True
