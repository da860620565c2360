"""The bounds that the numbers of a board and of a call keep to."""

COORDINATE_LIMIT = 1000000000
THICKNESS_LIMIT = 10000000
RADIUS_LIMIT = 1000000000
MARGIN_LIMIT = 1000000000
PITCH_LIMIT = 1000000000
MOST_POINTS = 32
MOST_COPPERS = 8
MOST_CUTS = 8
MOST_KEEPS = 32
MOST_TEXT_BYTES = 40000
MOST_CELLS = 24


def is_thickness(value):
    return 1 <= value <= THICKNESS_LIMIT


def is_radius(value):
    return 0 <= value <= RADIUS_LIMIT


def is_margin(value):
    return 1 <= value <= MARGIN_LIMIT


def is_pitch(value):
    return 1 <= value <= PITCH_LIMIT


def is_coordinate(value):
    return -COORDINATE_LIMIT <= value <= COORDINATE_LIMIT


def is_point_count(value):
    return 1 <= value <= MOST_POINTS


def is_cell_count(value):
    """Whether a raster may have that many columns, or rows."""
    return 1 <= value <= MOST_CELLS


def are_layers(lo, hi, coppers):
    return 1 <= lo <= hi <= coppers
