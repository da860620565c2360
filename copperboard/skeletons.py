"""Skeletons: spots, bars and simple polygons, in their form."""

OUTSIDE = 0
ON_SIDE = 1
INSIDE = 2


class Side:
    """The segment between two points, with the least box around it: left, low, right, high."""

    def __init__(self, begin, end):
        self.begin = begin
        self.end = end
        self.box = box_of([begin, end])


class Skeleton:
    """Points in their form, with what is often asked of them. It is never changed once made."""

    def __init__(self, points):
        self.points = points
        self.sides = sides_of(points)
        self.box = box_of(points)


def turning(a, b, c):
    """T(a, b, c): above 0 where one turns left at b on the way from a to c."""
    return (b[0] - a[0]) * (c[1] - a[1]) - (b[1] - a[1]) * (c[0] - a[0])


def paired(numbers):
    """The points told by x and y of each in turn."""
    return list(zip(numbers[0::2], numbers[1::2]))


def coordinates_of(skeleton):
    """x and y of each of its points in turn."""
    numbers = []
    for point in skeleton.points:
        numbers.extend(point)
    return numbers


def box_of(points):
    xs = [point[0] for point in points]
    ys = [point[1] for point in points]
    return (min(xs), min(ys), max(xs), max(ys))


def boxes_apart(first, second, gap):
    """Whether the boxes alone show that what lies in the one is the gap or more away from the other."""
    return (
        first[0] - second[2] >= gap
        or second[0] - first[2] >= gap
        or first[1] - second[3] >= gap
        or second[1] - first[3] >= gap
    )


def sides_of(points):
    # A spot is reckoned as a side with like ends, so that the same reckoning serves all skeletons.
    if len(points) < 3:
        return [Side(points[0], points[-1])]
    following = points[1:] + points[:1]
    return [Side(begin, end) for begin, end in zip(points, following)]


def sides_meet(first, second):
    """Whether the two sides have a point in common."""
    # Where all four ends lie on one line the turns say nothing, and the boxes decide.
    if boxes_apart(first.box, second.box, 1):
        return False
    begin_turn = turning(first.begin, first.end, second.begin)
    end_turn = turning(first.begin, first.end, second.end)
    if begin_turn * end_turn > 0:
        return False
    begin_turn = turning(second.begin, second.end, first.begin)
    end_turn = turning(second.begin, second.end, first.end)
    return begin_turn * end_turn <= 0


def folds_back(a, corner, c):
    """Whether the side from a to the corner and the one from there to c have more than the corner in common."""
    if turning(a, corner, c) != 0:
        return False
    along = (a[0] - corner[0]) * (c[0] - corner[0]) + (a[1] - corner[1]) * (c[1] - corner[1])
    return along > 0


def is_simple(points):
    """Whether three points or more are the corners of a simple polygon."""
    sides = sides_of(points)
    if any([side.begin == side.end for side in sides]):
        return False
    last = len(sides) - 1
    for i, side in enumerate(sides):
        if folds_back(sides[i - 1].begin, side.begin, side.end):
            return False
        # The first and the last side follow one another, so their corner is no fault.
        others = sides[i + 2:last] if i == 0 else sides[i + 2:]
        if any([sides_meet(side, other) for other in others]):
            return False
    return True


def twice_area(points):
    """Twice the area that the corners enclose, below 0 if they are told clockwise."""
    following = points[1:] + points[:1]
    return sum([a[0] * b[1] - a[1] * b[0] for a, b in zip(points, following)])


def height_then_left(point):
    return (point[1], point[0])


def form_of(points):
    """The points of a skeleton in their form."""
    # A spot and a bar have no area; the rule for a polygon's first corner is that for a bar's first end too.
    ordered = list(points)
    if twice_area(points) < 0:
        ordered.reverse()
    first = ordered.index(min(ordered, key=height_then_left))
    return ordered[first:] + ordered[:first]


def skeleton_in_form(points):
    """The skeleton of points that are known to be one."""
    return Skeleton(form_of(points))


def is_skeleton(points):
    """Whether one point or more tell a skeleton."""
    if len(points) > 2:
        return is_simple(points)
    return len(points) == 1 or points[0] != points[1]


def skeleton_of(points):
    """The skeleton that one point or more tell, or None if they are none."""
    return skeleton_in_form(points) if is_skeleton(points) else None


def polygon_of(points):
    """The polygon with these corners, or None if they are no simple polygon."""
    return skeleton_of(points) if len(points) > 2 else None


def where_in_polygon(point, polygon):
    """OUTSIDE, ON_SIDE or INSIDE."""
    point_box = (point[0], point[1], point[0], point[1])
    if boxes_apart(point_box, polygon.box, 1):
        return OUTSIDE
    inside = False
    for side in polygon.sides:
        turn = turning(side.begin, side.end, point)
        if turn == 0 and not boxes_apart(point_box, side.box, 1):
            return ON_SIDE
        rises = side.end[1] > side.begin[1]
        crosses_height = (side.begin[1] > point[1]) != (side.end[1] > point[1])
        # A ray to the right from the point goes through this side: each such side changes in to out or back.
        if crosses_height and (turn > 0) == rises:
            inside = not inside
    return INSIDE if inside else OUTSIDE
