"""The calls on two places that hold boards, and their answers."""

from copperboard.asking import asked, is_asking
from copperboard.changing import changed
from copperboard.layout import same_boards
from copperboard.limits import MOST_TEXT_BYTES
from copperboard.reading import board_of, read_text
from copperboard.refusals import BAD_PLACE, LONG_TEXT, WRONG_TEXT, is_place, places_refusal


def call_load(places, numbers, row):
    if not is_place(numbers[0]):
        return [BAD_PLACE]
    if len(row) > MOST_TEXT_BYTES:
        return [LONG_TEXT]
    draft = read_text(row)
    if draft.wrong_line > 0:
        return [WRONG_TEXT - draft.wrong_line]
    places[numbers[0]] = board_of(draft)
    return [0]


def call_copy(places, numbers, row):
    if not is_place(numbers[0]):
        return [BAD_PLACE]
    refusal = places_refusal(places, [numbers[1]])
    if refusal < 0:
        return [refusal]
    places[numbers[0]] = places[numbers[1]]
    return [0]


def call_same(places, numbers, row):
    refusal = places_refusal(places, numbers)
    if refusal < 0:
        return [refusal]
    return [1 if same_boards(places[numbers[0]], places[numbers[1]]) else 0]


# These look after their places themselves: they take the places, all whole numbers and the row.
PLACE_CALLS = {0: call_load, 2: call_copy, 3: call_same}

# How many whole numbers each call has, its place or places among them.
NUMBER_COUNTS = {
    0: 1, 1: 1, 2: 2, 3: 2, 4: 1, 5: 1, 6: 1, 7: 3, 8: 2, 9: 3, 10: 3, 11: 6,
    12: 6, 13: 5, 14: 5, 15: 2, 16: 2, 17: 1, 18: 2, 19: 2, 20: 11, 21: 13, 22: 15,
}

# The calls that have a row behind their whole numbers.
ROW_CALLS = (0, 11, 12, 13, 14, 17)


def answer_of(places, number, numbers, row):
    """What one call answers; a call that changes a board puts a new one into its place."""
    if number in PLACE_CALLS:
        call = PLACE_CALLS[number]
        return call(places, numbers, row)
    place = numbers[0]
    refusal = places_refusal(places, [place])
    if refusal < 0:
        return [refusal]
    if is_asking(number):
        return asked(places[place], number, numbers[1:], row)
    outcome = changed(places[place], number, numbers[1:], row)
    places[place] = outcome[1]
    return [outcome[0]]


def answers(calls):
    """The answers to the calls of one list, before each of them how many numbers it has."""
    places = [None, None]
    result = []
    at = 0
    while at < len(calls):
        number = calls[at]
        behind = at + 1 + NUMBER_COUNTS[number]
        numbers = calls[at + 1:behind]
        row = []
        if number in ROW_CALLS:
            begin = behind + 1
            behind = begin + calls[behind]
            row = calls[begin:behind]
        answer = answer_of(places, number, numbers, row)
        result.append(len(answer))
        result.extend(answer)
        at = behind
    return result
