"""The calls on two places that hold boards, and their answers."""

from copperboard.layout import Thing, board_size, first_reason, same_boards
from copperboard.layout import thickness_between, twice_board_area, where_on_board
from copperboard.limits import MOST_TEXT_BYTES
from copperboard.moving import mirrored, shift_stays_in_range, shifted, turned
from copperboard.printing import printed
from copperboard.reading import board_of, read_text
from copperboard.refusals import BAD_PLACE, LONG_TEXT, NO_SKELETON, OUT_OF_RANGE, WRONG_TEXT
from copperboard.refusals import between_refusal, coordinates_refusal, is_place, margin_refusal
from copperboard.refusals import places_refusal, points_refusal, thing_refusal
from copperboard.skeletons import paired, skeleton_of


def call_load(places, numbers, row):
    if not is_place(numbers[0]):
        return [BAD_PLACE]
    if len(row) > MOST_TEXT_BYTES:
        return [LONG_TEXT]
    draft = read_text(row)
    if draft.wrong_line > 0:
        return [WRONG_TEXT - draft.wrong_line]
    places[numbers[0]] = board_of(draft)
    return [0]


def call_copy(places, numbers, row):
    if not is_place(numbers[0]):
        return [BAD_PLACE]
    refusal = places_refusal(places, [numbers[1]])
    if refusal < 0:
        return [refusal]
    places[numbers[0]] = places[numbers[1]]
    return [0]


def call_same(places, numbers, row):
    refusal = places_refusal(places, numbers)
    if refusal < 0:
        return [refusal]
    return [1 if same_boards(places[numbers[0]], places[numbers[1]]) else 0]


def call_print(board, numbers, row):
    text = printed(board)
    return [len(text)] + text


def call_size(board, numbers, row):
    return board_size(board)


def call_area(board, numbers, row):
    return [twice_board_area(board)]


def call_point(board, numbers, row):
    refusal = coordinates_refusal(numbers)
    if refusal < 0:
        return [refusal]
    return where_on_board((numbers[0], numbers[1]), board)


def call_between(board, numbers, row):
    refusal = between_refusal(board, numbers[0], numbers[1])
    if refusal < 0:
        return [refusal]
    return [thickness_between(board, numbers[0], numbers[1])]


def may_refusal(board, numbers, row):
    """Whether the call may is refused for anything but points that are no skeleton, which comes last."""
    refusal = thing_refusal(board, numbers[0], numbers[1], numbers[2], numbers[3])
    if refusal < 0:
        return refusal
    refusal = margin_refusal(numbers[4])
    if refusal < 0:
        return refusal
    return points_refusal(row)


def call_may(board, numbers, row):
    refusal = may_refusal(board, numbers, row)
    if refusal < 0:
        return [refusal]
    skeleton = skeleton_of(paired(row))
    if skeleton is None:
        return [NO_SKELETON]
    thing = Thing(numbers[0], numbers[1], numbers[2], numbers[3], skeleton)
    return first_reason(board, thing, numbers[4])


def call_mirror(board, numbers, row):
    return (0, mirrored(board))


def call_shift(board, numbers, row):
    if not shift_stays_in_range(board, numbers[0], numbers[1]):
        return (OUT_OF_RANGE, board)
    return (0, shifted(board, numbers[0], numbers[1]))


def call_turn(board, numbers, row):
    return (0, turned(board, numbers[0] % 4))


# These look after their places themselves: they take the places, all numbers and the row.
PLACE_CALLS = {0: call_load, 2: call_copy, 3: call_same}

# These take the board, the numbers behind its place and the row, and give back the answer.
ASKING_CALLS = {1: call_print, 4: call_size, 5: call_area, 9: call_point, 10: call_between, 11: call_may}

# These take the same, and give back the one number answered and the board that the place then holds.
CHANGING_CALLS = {6: call_mirror, 7: call_shift, 8: call_turn}

# How many whole numbers each call has, its place or places among them.
NUMBER_COUNTS = {0: 1, 1: 1, 2: 2, 3: 2, 4: 1, 5: 1, 6: 1, 7: 3, 8: 2, 9: 3, 10: 3, 11: 6}

# The calls that have a row behind their whole numbers.
ROW_CALLS = (0, 11)


def answer_of(places, number, numbers, row):
    """What one call answers; a call that changes a board puts a new one into its place."""
    if number in PLACE_CALLS:
        call = PLACE_CALLS[number]
        return call(places, numbers, row)
    place = numbers[0]
    refusal = places_refusal(places, [place])
    if refusal < 0:
        return [refusal]
    if number in ASKING_CALLS:
        call = ASKING_CALLS[number]
        return call(places[place], numbers[1:], row)
    call = CHANGING_CALLS[number]
    outcome = call(places[place], numbers[1:], row)
    places[place] = outcome[1]
    return [outcome[0]]


def answers(calls):
    """The answers to the calls of one list, before each of them how many numbers it has."""
    places = [None, None]
    result = []
    at = 0
    while at < len(calls):
        number = calls[at]
        behind = at + 1 + NUMBER_COUNTS[number]
        numbers = calls[at + 1:behind]
        row = []
        if number in ROW_CALLS:
            begin = behind + 1
            behind = begin + calls[behind]
            row = calls[begin:behind]
        answer = answer_of(places, number, numbers, row)
        result.append(len(answer))
        result.extend(answer)
        at = behind
    return result
