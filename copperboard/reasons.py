"""Why a thing may not lie somewhere with a margin, and the greatest margin with which it may."""

from copperboard.distances import skeletons_apart
from copperboard.layout import ALL_KINDS, all_inside, outline_bars
from copperboard.limits import MARGIN_LIMIT

# What a reason tells in the first of its two numbers.
POINT_OUTSIDE = 1
NEAR_OUTLINE = 2
NEAR_CUT = 3
NEAR_KEEP = 4


class Obstacle:
    """A shape that a thing keeps away from, and the reason that it is if the thing comes too near."""

    def __init__(self, reason, skeleton, radius):
        self.reason = reason
        self.skeleton = skeleton
        self.radius = radius


def stops(keep, kind, lo, hi):
    """Whether the keep-out stops a thing of that kind on the layers from lo to hi."""
    if keep.kind != ALL_KINDS and keep.kind != kind:
        return False
    return keep.lo <= hi and lo <= keep.hi


def obstacles_of(board, kind, lo, hi):
    """What a thing of that kind on the layers from lo to hi keeps away from, in the order of the reasons."""
    found = [Obstacle((NEAR_OUTLINE, e), bar, 0) for e, bar in enumerate(outline_bars(board.outline))]
    found.extend([Obstacle((NEAR_CUT, i), cut, 0) for i, cut in enumerate(board.cuts)])
    for i, keep in enumerate(board.keeps):
        if stops(keep, kind, lo, hi):
            found.append(Obstacle((NEAR_KEEP, i), keep.skeleton, keep.radius))
    return found


def obstacles_to(board, thing):
    return obstacles_of(board, thing.kind, thing.lo, thing.hi)


def clears(thing, obstacle, margin):
    """Whether the thing and the obstacle are apart by the margin."""
    return skeletons_apart(obstacle.skeleton, thing.skeleton, thing.radius + obstacle.radius + margin)


def first_reason(board, thing, margin):
    """The first reason why the thing may not lie there with the margin, as two numbers, or two zeros."""
    if not all_inside(thing.skeleton.points, board.outline):
        return [POINT_OUTSIDE, 0]
    for obstacle in obstacles_to(board, thing):
        if not clears(thing, obstacle, margin):
            return list(obstacle.reason)
    return [0, 0]


def all_reasons(board, thing, margin):
    """How many reasons there are, then all of them in their order, two numbers each."""
    reasons = [] if all_inside(thing.skeleton.points, board.outline) else [POINT_OUTSIDE, 0]
    for obstacle in obstacles_to(board, thing):
        if not clears(thing, obstacle, margin):
            reasons.extend(obstacle.reason)
    return [len(reasons) // 2] + reasons


def lesser_margin(thing, obstacle, too_great):
    """The greatest margin below one that is too great by which both are apart, or 0 if there is none."""
    enough = 0
    while too_great - enough > 1:
        middle = (enough + too_great) // 2
        if clears(thing, obstacle, middle):
            enough = middle
        else:
            too_great = middle
    return enough


def greatest_margin(board, thing):
    """The greatest margin with which the thing may lie there, or 0 if there is none."""
    if not all_inside(thing.skeleton.points, board.outline):
        return 0
    margin = MARGIN_LIMIT
    for obstacle in obstacles_to(board, thing):
        if margin > 0 and not clears(thing, obstacle, margin):
            margin = lesser_margin(thing, obstacle, margin)
    return margin


def room_for(board, thing):
    """The greatest margin, then the first reason against a margin 1 greater."""
    margin = greatest_margin(board, thing)
    if margin == MARGIN_LIMIT:
        return [margin, 0, 0]
    return [margin] + first_reason(board, thing, margin + 1)
