"""Boards out of their texts."""

from copperboard.layout import KIND_NAMES, Board, Thing, coppers_in, cut_fits
from copperboard.limits import MOST_COPPERS, MOST_CUTS, MOST_KEEPS
from copperboard.limits import are_layers, is_coordinate, is_point_count, is_radius, is_thickness
from copperboard.skeletons import paired, polygon_of, skeleton_of
from copperboard.words import bytes_of, has_wrong_byte, is_passed_over, lines_of, numbers_of, words_of


class Draft:
    """What the lines of a text have told so far; wrong_line is 0 as long as none was wrong."""

    def __init__(self):
        self.thicknesses = []
        self.outline = None
        self.cuts = []
        self.keeps = []
        self.wrong_line = 0


def ends_with_copper(draft):
    return len(draft.thicknesses) % 2 == 1


def points_of(numbers):
    """The points told by x and y of each in turn, or None if they are not 1 to 32 points in range."""
    if len(numbers) % 2 == 1 or not is_point_count(len(numbers) // 2):
        return None
    if not all([is_coordinate(number) for number in numbers]):
        return None
    return paired(numbers)


def polygon_of_words(words):
    """The polygon whose corners the words tell, or None if they tell none."""
    numbers = numbers_of(words)
    points = None if numbers is None else points_of(numbers)
    return None if points is None else polygon_of(points)


def read_thickness(draft, words):
    numbers = numbers_of(words)
    if numbers is None or len(numbers) != 1 or not is_thickness(numbers[0]):
        return False
    draft.thicknesses.append(numbers[0])
    return True


def read_copper(draft, words):
    if draft.outline is not None or ends_with_copper(draft):
        return False
    return coppers_in(draft.thicknesses) < MOST_COPPERS and read_thickness(draft, words)


def read_core(draft, words):
    if draft.outline is not None or not ends_with_copper(draft):
        return False
    return read_thickness(draft, words)


def read_outline(draft, words):
    if draft.outline is not None or not ends_with_copper(draft):
        return False
    draft.outline = polygon_of_words(words)
    return draft.outline is not None


def read_cut(draft, words):
    if draft.outline is None or len(draft.cuts) >= MOST_CUTS:
        return False
    cut = polygon_of_words(words)
    if cut is None or not cut_fits(cut, draft.outline, draft.cuts):
        return False
    draft.cuts.append(cut)
    return True


def kind_of(word):
    """The kind that the word names, or None if it names none."""
    for kind, name in enumerate(KIND_NAMES):
        if word == bytes_of(name):
            return kind
    return None


def read_keep(draft, words):
    if draft.outline is None or len(draft.keeps) >= MOST_KEEPS or len(words) < 4:
        return False
    kind = kind_of(words[0])
    numbers = numbers_of(words[1:])
    if kind is None or numbers is None:
        return False
    if not are_layers(numbers[0], numbers[1], coppers_in(draft.thicknesses)) or not is_radius(numbers[2]):
        return False
    points = points_of(numbers[3:])
    skeleton = None if points is None else skeleton_of(points)
    if skeleton is None:
        return False
    draft.keeps.append(Thing(kind, numbers[0], numbers[1], numbers[2], skeleton))
    return True


READERS = (
    ("copper", read_copper),
    ("core", read_core),
    ("outline", read_outline),
    ("cut", read_cut),
    ("keep", read_keep),
)


def read_words(draft, words):
    """Takes a line's words into the draft; answers whether the line is right."""
    for name, reader in READERS:
        if words[0] == bytes_of(name):
            return reader(draft, words[1:])
    return False


def read_line(draft, line):
    if has_wrong_byte(line):
        return False
    words = words_of(line)
    return is_passed_over(words) or read_words(draft, words)


def read_text(text):
    """The draft of the text's board: whole if its wrong_line is 0, else of no use but for that."""
    draft = Draft()
    lines = lines_of(text)
    for i, line in enumerate(lines):
        if not read_line(draft, line):
            draft.wrong_line = i + 1
            return draft
    if draft.outline is None:
        draft.wrong_line = len(lines) + 1
    return draft


def board_of(draft):
    return Board(draft.thicknesses, draft.outline, draft.cuts, draft.keeps)
