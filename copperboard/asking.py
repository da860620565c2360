"""The calls that ask something of one board and don't change it."""

from copperboard.layout import LAST_THING_KIND, Thing, board_size, thickness_between, twice_board_area, where_on_board
from copperboard.printing import printed
from copperboard.rasters import Ground, Raster, free_rows, reached_rows, shortest_way
from copperboard.reasons import all_reasons, first_reason, obstacles_of, room_for
from copperboard.refusals import between_refusal, coordinates_refusal, margin_refusal, nearest_refusal
from copperboard.refusals import number_refusal, points_refusal, raster_refusal, thing_refusal
from copperboard.skeletons import coordinates_of, paired, skeleton_in_form


def call_print(board, numbers, row):
    text = printed(board)
    return [len(text)] + text


def call_size(board, numbers, row):
    return board_size(board)


def call_area(board, numbers, row):
    return [twice_board_area(board)]


def call_point(board, numbers, row):
    refusal = coordinates_refusal(numbers)
    if refusal < 0:
        return [refusal]
    return where_on_board((numbers[0], numbers[1]), board)


def call_between(board, numbers, row):
    refusal = between_refusal(board, numbers[0], numbers[1])
    if refusal < 0:
        return [refusal]
    return [thickness_between(board, numbers[0], numbers[1])]


def thing_of(numbers, row):
    """The thing that a kind, lo, hi, a radius and the points tell, which aren't refused."""
    return Thing(numbers[0], numbers[1], numbers[2], numbers[3], skeleton_in_form(paired(row)))


def room_refusal(board, numbers, row):
    return nearest_refusal([thing_refusal(board, numbers, LAST_THING_KIND), points_refusal(row)])


def may_refusal(board, numbers, row):
    return nearest_refusal([room_refusal(board, numbers, row), margin_refusal(numbers[4])])


def call_may(board, numbers, row):
    refusal = may_refusal(board, numbers, row)
    if refusal < 0:
        return [refusal]
    return first_reason(board, thing_of(numbers, row), numbers[4])


def call_all(board, numbers, row):
    refusal = may_refusal(board, numbers, row)
    if refusal < 0:
        return [refusal]
    return all_reasons(board, thing_of(numbers, row), numbers[4])


def call_room(board, numbers, row):
    refusal = room_refusal(board, numbers, row)
    if refusal < 0:
        return [refusal]
    return room_for(board, thing_of(numbers, row))


def call_keepout(board, numbers, row):
    refusal = number_refusal(numbers[0], len(board.keeps))
    if refusal < 0:
        return [refusal]
    keep = board.keeps[numbers[0]]
    return [keep.kind, keep.lo, keep.hi, keep.radius] + coordinates_of(keep.skeleton)


def call_cutout(board, numbers, row):
    refusal = number_refusal(numbers[0], len(board.cuts))
    if refusal < 0:
        return [refusal]
    cut = board.cuts[numbers[0]]
    return [len(cut.points)] + coordinates_of(cut)


def cells_refusal(board, numbers):
    """Whether a raster is refused, or one of the cells, two numbers each, that are told behind it."""
    refusals = [
        thing_refusal(board, numbers, LAST_THING_KIND),
        margin_refusal(numbers[4]),
        raster_refusal(numbers[5], numbers[6], numbers[7], numbers[8], numbers[9]),
    ]
    for i, j in paired(numbers[10:]):
        refusals.append(number_refusal(i, numbers[8]))
        refusals.append(number_refusal(j, numbers[9]))
    return nearest_refusal(refusals)


def raster_of(numbers):
    return Raster(numbers[5], numbers[6], numbers[7], numbers[8], numbers[9])


def ground_of(board, numbers):
    obstacles = obstacles_of(board, numbers[0], numbers[1], numbers[2])
    return Ground(board.outline, obstacles, numbers[3] + numbers[4])


def call_raster(board, numbers, row):
    refusal = cells_refusal(board, numbers)
    if refusal < 0:
        return [refusal]
    return free_rows(raster_of(numbers), ground_of(board, numbers))


def call_reach(board, numbers, row):
    refusal = cells_refusal(board, numbers)
    if refusal < 0:
        return [refusal]
    return reached_rows(raster_of(numbers), ground_of(board, numbers), (numbers[10], numbers[11]))


def call_way(board, numbers, row):
    refusal = cells_refusal(board, numbers)
    if refusal < 0:
        return [refusal]
    first = (numbers[10], numbers[11])
    return shortest_way(raster_of(numbers), ground_of(board, numbers), first, (numbers[12], numbers[13]))


# Each takes the board, the whole numbers behind its place and the row, and gives back what is answered.
ASKING_CALLS = {
    1: call_print,
    4: call_size,
    5: call_area,
    9: call_point,
    10: call_between,
    11: call_may,
    12: call_all,
    13: call_room,
    16: call_keepout,
    19: call_cutout,
    20: call_raster,
    21: call_reach,
    22: call_way,
}


def is_asking(number):
    return number in ASKING_CALLS


def asked(board, number, numbers, row):
    """What the call with that number answers."""
    call = ASKING_CALLS[number]
    return call(board, numbers, row)
