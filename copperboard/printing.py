"""Boards as texts."""

from copperboard.layout import KIND_NAMES
from copperboard.skeletons import coordinates_of
from copperboard.words import bytes_of


def point_words(skeleton):
    return [str(number) for number in coordinates_of(skeleton)]


def stack_lines(thicknesses):
    names = ("copper", "core")
    return [[names[i % 2], str(thickness)] for i, thickness in enumerate(thicknesses)]


def keep_line(keep):
    return ["keep", KIND_NAMES[keep.kind], str(keep.lo), str(keep.hi), str(keep.radius)] + point_words(keep.skeleton)


def printed(board):
    """The bytes of the board's text."""
    lines = stack_lines(board.thicknesses)
    lines.append(["outline"] + point_words(board.outline))
    lines.extend([["cut"] + point_words(cut) for cut in board.cuts])
    lines.extend([keep_line(keep) for keep in board.keeps])
    return bytes_of("".join([" ".join(words) + "\n" for words in lines]))
