"""The refusals, each a number below 0, and when they are due; 0 stands for none."""

from copperboard.layout import coppers_in
from copperboard.limits import are_layers, is_cell_count, is_coordinate, is_margin
from copperboard.limits import is_pitch, is_point_count, is_radius
from copperboard.skeletons import is_skeleton, paired

BAD_PLACE = -1
EMPTY_PLACE = -2
BAD_LAYERS = -3
BAD_KIND = -4
BAD_RADIUS = -5
BAD_MARGIN = -6
BAD_COUNT = -7
OUT_OF_RANGE = -8
NO_SKELETON = -9
NOT_THERE = -10
NO_MORE = -11
NO_FIT = -12
LONG_TEXT = -13
WRONG_TEXT = -100


def nearest_refusal(refusals):
    """Of those that are due the one nearest to 0."""
    return max([refusal for refusal in refusals if refusal < 0], default=0)


def is_place(place):
    return place == 0 or place == 1


def places_refusal(places, asked):
    """Whether one of the places whose boards are asked for isn't there or is empty."""
    if not all([is_place(place) for place in asked]):
        return BAD_PLACE
    if any([places[place] is None for place in asked]):
        return EMPTY_PLACE
    return 0


def coordinates_refusal(numbers):
    return 0 if all([is_coordinate(number) for number in numbers]) else OUT_OF_RANGE


def points_refusal(numbers):
    """Whether the numbers, x and y of each point in turn, don't tell a skeleton."""
    if len(numbers) % 2 == 1 or not is_point_count(len(numbers) // 2):
        return BAD_COUNT
    refusal = coordinates_refusal(numbers)
    if refusal < 0:
        return refusal
    return 0 if is_skeleton(paired(numbers)) else NO_SKELETON


def polygon_refusal(numbers):
    """Whether the numbers, x and y of each corner in turn, don't tell a polygon."""
    refusal = points_refusal(numbers)
    if refusal < 0:
        return refusal
    return 0 if len(numbers) >= 6 else NO_SKELETON


def layers_refusal(board, lo, hi):
    return 0 if are_layers(lo, hi, coppers_in(board.thicknesses)) else BAD_LAYERS


def thing_refusal(board, numbers, last_kind):
    """Whether the first of the numbers, which are a kind, lo, hi and a radius, are wrong."""
    kind_refusal = 0 if 0 <= numbers[0] <= last_kind else BAD_KIND
    radius_refusal = 0 if is_radius(numbers[3]) else BAD_RADIUS
    return nearest_refusal([layers_refusal(board, numbers[1], numbers[2]), kind_refusal, radius_refusal])


def margin_refusal(margin):
    return 0 if is_margin(margin) else BAD_MARGIN


def between_refusal(board, i, j):
    coppers = coppers_in(board.thicknesses)
    return 0 if i != j and 1 <= i <= coppers and 1 <= j <= coppers else BAD_LAYERS


def number_refusal(number, count):
    """Whether it isn't the number of one of so many, which are numbered from 0."""
    return 0 if 0 <= number < count else NOT_THERE


def raster_refusal(x, y, pitch, columns, rows):
    if not is_cell_count(columns) or not is_cell_count(rows):
        return BAD_COUNT
    if not is_pitch(pitch):
        return OUT_OF_RANGE
    # All points of cells lie between the first and the last one.
    return coordinates_refusal([x, y, x + (columns - 1) * pitch, y + (rows - 1) * pitch])
