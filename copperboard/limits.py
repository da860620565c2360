"""The bounds that the numbers of a board and of a call keep to."""

COORDINATE_LIMIT = 1000000000
THICKNESS_LIMIT = 10000000
RADIUS_LIMIT = 1000000000
MARGIN_LIMIT = 1000000000
MOST_POINTS = 32
MOST_COPPERS = 8
MOST_CUTS = 8
MOST_KEEPS = 32
MOST_TEXT_BYTES = 40000


def is_thickness(value):
    return 1 <= value <= THICKNESS_LIMIT


def is_radius(value):
    return 0 <= value <= RADIUS_LIMIT


def is_margin(value):
    return 1 <= value <= MARGIN_LIMIT


def is_coordinate(value):
    return -COORDINATE_LIMIT <= value <= COORDINATE_LIMIT


def is_point_count(value):
    return 1 <= value <= MOST_POINTS


def are_layers(lo, hi, coppers):
    return 1 <= lo <= hi <= coppers
