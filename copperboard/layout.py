"""Boards and what they are made of."""

from copperboard.distances import skeletons_apart
from copperboard.skeletons import INSIDE, ON_SIDE, OUTSIDE, Skeleton, twice_area, where_in_polygon

KIND_NAMES = ("track", "via", "part", "all")
LAST_THING_KIND = 2
ALL_KINDS = 3

# What where_on_board tells in the first of its two numbers.
OFF_BOARD = 0
ON_OUTLINE = 1
ON_CUT = 2
IN_CUT = 3
ON_BOARD = 4


class Thing:
    """A kind, layers from lo to hi, and a shape: a thing, or a keep-out. It is never changed once made."""

    def __init__(self, kind, lo, hi, radius, skeleton):
        self.kind = kind
        self.lo = lo
        self.hi = hi
        self.radius = radius
        self.skeleton = skeleton


class Board:
    """Thicknesses from above (copper and core in turn), an outline, cut-outs and keep-outs.

    A board is never changed once made, so both places may hold the same one.
    """

    def __init__(self, thicknesses, outline, cuts, keeps):
        self.thicknesses = thicknesses
        self.outline = outline
        self.cuts = cuts
        self.keeps = keeps


def coppers_in(thicknesses):
    return (len(thicknesses) + 1) // 2


def board_size(board):
    coppers = coppers_in(board.thicknesses)
    return [coppers, sum(board.thicknesses), len(board.outline.points), len(board.cuts), len(board.keeps)]


def thickness_between(board, i, j):
    """The sum of what lies between two unlike copper layers, both left out."""
    above = 2 * (min(i, j) - 1)
    below = 2 * (max(i, j) - 1)
    return sum(board.thicknesses[above + 1:below])


def twice_board_area(board):
    return twice_area(board.outline.points) - sum([twice_area(cut.points) for cut in board.cuts])


def keep_values(keep):
    return (keep.kind, keep.lo, keep.hi, keep.radius, keep.skeleton.points)


def same_boards(first, second):
    return (
        first.thicknesses == second.thicknesses
        and first.outline.points == second.outline.points
        and [cut.points for cut in first.cuts] == [cut.points for cut in second.cuts]
        and [keep_values(keep) for keep in first.keeps] == [keep_values(keep) for keep in second.keeps]
    )


def all_inside(points, outline):
    """Whether all the points lie in the outline's polygon, on its sides too."""
    for point in points:
        if where_in_polygon(point, outline) == OUTSIDE:
            return False
    return True


def where_on_board(point, board):
    """Where the point lies, as two numbers, the second of which is the cut-out's where there is one."""
    where = where_in_polygon(point, board.outline)
    if where == OUTSIDE:
        return [OFF_BOARD, 0]
    if where == ON_SIDE:
        return [ON_OUTLINE, 0]
    for i, cut in enumerate(board.cuts):
        where = where_in_polygon(point, cut)
        if where == ON_SIDE:
            return [ON_CUT, i]
        if where == INSIDE:
            return [IN_CUT, i]
    return [ON_BOARD, 0]


def outline_bars(outline):
    """The sides of the outline, each taken as a bar."""
    return [Skeleton([side.begin, side.end]) for side in outline.sides]


def cut_fits(cut, outline, cuts):
    """Whether the cut-out lies within the outline, apart by 1 from its sides and from the other cut-outs."""
    if not all_inside(cut.points, outline):
        return False
    return all([skeletons_apart(cut, other, 1) for other in outline_bars(outline) + cuts])


def with_keep(board, keep):
    return Board(board.thicknesses, board.outline, board.cuts, board.keeps + [keep])


def without_keep(board, i):
    return Board(board.thicknesses, board.outline, board.cuts, board.keeps[:i] + board.keeps[i + 1:])


def with_cut(board, cut):
    return Board(board.thicknesses, board.outline, board.cuts + [cut], board.keeps)


def without_cut(board, i):
    return Board(board.thicknesses, board.outline, board.cuts[:i] + board.cuts[i + 1:], board.keeps)
