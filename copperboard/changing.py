"""The calls that change one board: each makes a new one."""

from copperboard.layout import ALL_KINDS, Thing, cut_fits, with_cut, with_keep, without_cut, without_keep
from copperboard.limits import MOST_CUTS, MOST_KEEPS
from copperboard.moving import mirrored, shift_stays_in_range, shifted, turned
from copperboard.refusals import NO_FIT, NO_MORE, OUT_OF_RANGE
from copperboard.refusals import nearest_refusal, number_refusal, points_refusal, polygon_refusal, thing_refusal
from copperboard.skeletons import paired, skeleton_in_form


def call_mirror(board, numbers, row):
    return (0, mirrored(board))


def call_shift(board, numbers, row):
    if not shift_stays_in_range(board, numbers[0], numbers[1]):
        return (OUT_OF_RANGE, board)
    return (0, shifted(board, numbers[0], numbers[1]))


def call_turn(board, numbers, row):
    return (0, turned(board, numbers[0] % 4))


def keep_refusal(board, numbers, row):
    full = NO_MORE if len(board.keeps) >= MOST_KEEPS else 0
    return nearest_refusal([thing_refusal(board, numbers, ALL_KINDS), points_refusal(row), full])


def call_keep(board, numbers, row):
    refusal = keep_refusal(board, numbers, row)
    if refusal < 0:
        return (refusal, board)
    keep = Thing(numbers[0], numbers[1], numbers[2], numbers[3], skeleton_in_form(paired(row)))
    return (len(board.keeps), with_keep(board, keep))


def call_unkeep(board, numbers, row):
    refusal = number_refusal(numbers[0], len(board.keeps))
    if refusal < 0:
        return (refusal, board)
    return (len(board.keeps) - 1, without_keep(board, numbers[0]))


def cut_refusal(board, row):
    """Whether a cut-out is refused for anything but that it doesn't fit, which comes last."""
    full = NO_MORE if len(board.cuts) >= MOST_CUTS else 0
    return nearest_refusal([polygon_refusal(row), full])


def call_cut(board, numbers, row):
    refusal = cut_refusal(board, row)
    if refusal < 0:
        return (refusal, board)
    cut = skeleton_in_form(paired(row))
    if not cut_fits(cut, board.outline, board.cuts):
        return (NO_FIT, board)
    return (len(board.cuts), with_cut(board, cut))


def call_uncut(board, numbers, row):
    refusal = number_refusal(numbers[0], len(board.cuts))
    if refusal < 0:
        return (refusal, board)
    return (len(board.cuts) - 1, without_cut(board, numbers[0]))


# Each takes the board, the whole numbers behind its place and the row, and gives back the one number that is answered
# and the board that the place then holds.
CHANGING_CALLS = {
    6: call_mirror,
    7: call_shift,
    8: call_turn,
    14: call_keep,
    15: call_unkeep,
    17: call_cut,
    18: call_uncut,
}


def changed(board, number, numbers, row):
    """The number that the call with that number answers, and the board then."""
    call = CHANGING_CALLS[number]
    return call(board, numbers, row)
