"""Boards moved, turned, or seen from the other side: each time a new board."""

from copperboard.layout import Board, Thing, coppers_in
from copperboard.limits import is_coordinate
from copperboard.skeletons import skeleton_in_form

# Of 0 to 3 quarter turns.
COSINES = (1, 0, -1, 0)
SINES = (0, 1, 0, -1)


def moved_skeleton(skeleton, move):
    return skeleton_in_form([move(point) for point in skeleton.points])


def moved_keep(keep, move):
    return Thing(keep.kind, keep.lo, keep.hi, keep.radius, moved_skeleton(keep.skeleton, move))


def moved(board, move):
    """The board with all its points taken where the function move takes them."""
    cuts = [moved_skeleton(cut, move) for cut in board.cuts]
    keeps = [moved_keep(keep, move) for keep in board.keeps]
    return Board(board.thicknesses, moved_skeleton(board.outline, move), cuts, keeps)


def keep_from_below(keep, coppers):
    return Thing(keep.kind, coppers + 1 - keep.hi, coppers + 1 - keep.lo, keep.radius, keep.skeleton)


def mirrored(board):
    flipped = moved(board, lambda point: (-point[0], point[1]))
    coppers = coppers_in(board.thicknesses)
    keeps = [keep_from_below(keep, coppers) for keep in flipped.keeps]
    return Board(list(reversed(board.thicknesses)), flipped.outline, flipped.cuts, keeps)


def shifted(board, dx, dy):
    return moved(board, lambda point: (point[0] + dx, point[1] + dy))


def turned(board, quarters):
    """The board turned by 0 to 3 quarter turns about (0, 0)."""
    cosine = COSINES[quarters]
    sine = SINES[quarters]
    return moved(board, lambda point: (cosine * point[0] - sine * point[1], sine * point[0] + cosine * point[1]))


def skeletons_in(board):
    return [board.outline] + board.cuts + [keep.skeleton for keep in board.keeps]


def shift_stays_in_range(board, dx, dy):
    for skeleton in skeletons_in(board):
        for x, y in skeleton.points:
            if not is_coordinate(x + dx) or not is_coordinate(y + dy):
                return False
    return True
