"""The refusals, each a number below 0, and which of them is due; 0 stands for none.

Each function looks for them in the order -1, -2, .. and so finds the one nearest to 0.
"""

from copperboard.layout import coppers_in
from copperboard.limits import are_layers, is_coordinate, is_margin, is_point_count, is_radius

BAD_PLACE = -1
EMPTY_PLACE = -2
BAD_LAYERS = -3
BAD_KIND = -4
BAD_RADIUS = -5
BAD_MARGIN = -6
BAD_POINTS = -7
OUT_OF_RANGE = -8
NO_SKELETON = -9
LONG_TEXT = -13
WRONG_TEXT = -100

LAST_THING_KIND = 2


def is_place(place):
    return place == 0 or place == 1


def places_refusal(places, asked):
    """Whether one of the places whose boards are asked for isn't there or is empty."""
    if not all([is_place(place) for place in asked]):
        return BAD_PLACE
    if any([places[place] is None for place in asked]):
        return EMPTY_PLACE
    return 0


def coordinates_refusal(numbers):
    return 0 if all([is_coordinate(number) for number in numbers]) else OUT_OF_RANGE


def points_refusal(numbers):
    """Whether the numbers, x and y of each point in turn, are too few, too many, odd or out of range."""
    if len(numbers) % 2 == 1 or not is_point_count(len(numbers) // 2):
        return BAD_POINTS
    return coordinates_refusal(numbers)


def thing_refusal(board, kind, lo, hi, radius):
    if not are_layers(lo, hi, coppers_in(board.thicknesses)):
        return BAD_LAYERS
    if not 0 <= kind <= LAST_THING_KIND:
        return BAD_KIND
    return 0 if is_radius(radius) else BAD_RADIUS


def margin_refusal(margin):
    return 0 if is_margin(margin) else BAD_MARGIN


def between_refusal(board, i, j):
    coppers = coppers_in(board.thicknesses)
    return 0 if i != j and 1 <= i <= coppers and 1 <= j <= coppers else BAD_LAYERS
