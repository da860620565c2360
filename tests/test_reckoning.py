"""The program's answers beside those of a slow second reckoning, on many small boards and things.

The second reckoning goes another way: fractions and least distances in the place of compared squares, winding numbers
in the place of crossings. The small coordinates make touching, flat and overlapping cases common.
"""

import math
import random
import unittest
from fractions import Fraction

from tests.helper import ask, cut, flat, keep, load, may, point, printing, raster, reach, reasons, room, way, words


def minus(a, b):
    return (a[0] - b[0], a[1] - b[1])


def dot(a, b):
    return a[0] * b[0] + a[1] * b[1]


def cross(a, b):
    return a[0] * b[1] - a[1] * b[0]


def nearest_square(p, a, b):
    """The square of the least distance from the point p to the segment from a to b."""
    along = minus(b, a)
    part = Fraction(0)
    if a != b:
        part = min(Fraction(1), max(Fraction(0), Fraction(dot(minus(p, a), along), dot(along, along))))
    foot = (a[0] + part * along[0], a[1] + part * along[1])
    return dot(minus(p, foot), minus(p, foot))


def common(a, b, c, d):
    """The ends of what the segments from a to b and from c to d have in common: none, one or two points."""
    first, second = minus(b, a), minus(d, c)
    turn = cross(first, second)
    if turn != 0:
        s = Fraction(cross(minus(c, a), second), turn)
        t = Fraction(cross(minus(c, a), first), turn)
        if 0 <= s <= 1 and 0 <= t <= 1:
            return {(a[0] + s * first[0], a[1] + s * first[1])}
        return set()
    shared = {p for p in (a, b) if nearest_square(p, c, d) == 0}
    return shared | {p for p in (c, d) if nearest_square(p, a, b) == 0}


def sides(points):
    if len(points) == 1:
        return [(points[0], points[0])]
    if len(points) == 2:
        return [(points[0], points[1])]
    return [(p, points[(i + 1) % len(points)]) for i, p in enumerate(points)]


def is_skeleton(points):
    if len(points) < 3:
        return len(set(points)) == len(points)
    if any(a == b for a, b in sides(points)):
        return False
    told = sides(points)
    for i in range(len(told)):
        for j in range(i):
            shared = common(*told[i], *told[j])
            corner = {told[i][0]} if i == j + 1 else {told[j][0]} if (j, i) == (0, len(told) - 1) else set()
            if shared != corner:
                return False
    return True


def where(p, points):
    """0 outside, 1 on a side, 2 inside."""
    if any(nearest_square(p, a, b) == 0 for a, b in sides(points)):
        return 1
    winding = 0
    for a, b in sides(points):
        if a[1] <= p[1] < b[1] and cross(minus(b, a), minus(p, a)) > 0:
            winding += 1
        if b[1] <= p[1] < a[1] and cross(minus(b, a), minus(p, a)) < 0:
            winding -= 1
    return 2 if winding else 0


def distance_square(first, second):
    for one, other in ((first, second), (second, first)):
        if len(one) > 2 and any(where(p, one) for p in other):
            return 0
    least = []
    for a, b in sides(first):
        for c, d in sides(second):
            if common(a, b, c, d):
                return 0
            least += [nearest_square(a, c, d), nearest_square(b, c, d), nearest_square(c, a, b), nearest_square(d, a, b)]
    return min(least)


def in_form(points):
    if len(points) < 3:
        return sorted(points, key=lambda p: (p[1], p[0]))
    told = list(points)
    if sum(cross(a, b) for a, b in sides(points)) < 0:
        told = told[::-1]
    lowest = min(range(len(told)), key=lambda i: (told[i][1], told[i][0]))
    return told[lowest:] + told[:lowest]


def some_points(source, count, reach):
    return [(source.randint(-reach, reach), source.randint(-reach, reach)) for number in range(count)]


def some_skeleton(source, count, reach):
    points = some_points(source, count, reach)
    while not is_skeleton(points):
        points = some_points(source, count, reach)
    return points


def some_outline(source, reach):
    """An outline that has room for something."""
    while True:
        outline = some_skeleton(source, source.randint(3, 5), reach)
        if abs(sum(cross(a, b) for a, b in sides(outline))) > 2 * reach * reach:
            return in_form(outline)


def some_wide_outline(source):
    """Nearly a square, now and then with a dent, so that there is much room."""
    corners = ((-14, -14), (14, -14), (14, 14), (-14, 14))
    while True:
        outline = [(x + source.randint(-3, 3), y + source.randint(-3, 3)) for x, y in corners]
        if source.randint(0, 1):
            outline.append((source.randint(-14, 2), source.randint(-3, 3)))
        if is_skeleton(outline):
            return in_form(outline)


def some_small_skeleton(source, count):
    """A skeleton that is small beside such an outline."""
    dx, dy = source.randint(-9, 9), source.randint(-9, 9)
    return [(x + dx, y + dy) for x, y in some_skeleton(source, count, 3)]


def fits(hole, outline):
    if not all(where(corner, outline) for corner in hole):
        return False
    return all(distance_square(side, hole) >= 1 for side in sides(outline))


class Board:
    """An outline in its form, cut-outs, and keep-outs (radius and skeleton) that stop everything."""

    def __init__(self, outline, cuts, keeps):
        self.outline = outline
        self.cuts = cuts
        self.keeps = keeps

    def obstacles(self):
        """For each thing to be kept away from: its reason, its radius, its skeleton."""
        found = [((2, e), 0, list(side)) for e, side in enumerate(sides(self.outline))]
        found += [((3, i), 0, hole) for i, hole in enumerate(self.cuts)]
        return found + [((4, i), radius, kept) for i, (radius, kept) in enumerate(self.keeps)]

    def inside(self, thing):
        return all(where(spot, self.outline) for spot in thing)

    def reasons(self, thing, r, m):
        found = [] if self.inside(thing) else [(1, 0)]
        return found + [reason for reason, radius, skeleton in self.obstacles()
                        if distance_square(skeleton, thing) < (radius + r + m) ** 2]

    def room(self, thing, r):
        if not self.inside(thing):
            return 0
        margins = [math.isqrt(math.floor(distance_square(skeleton, thing))) - radius - r
                   for reason, radius, skeleton in self.obstacles()]
        return max(0, min(margins))

    def cells(self, x, y, pitch, columns, rows, r, m):
        """The free cells, and the pairs of cells that a step joins."""
        spots = {(i, j): (x + i * pitch, y + j * pitch) for i in range(columns) for j in range(rows)}
        free = {cell for cell in spots if not self.reasons([spots[cell]], r, m)}
        pairs = [((i, j), other) for i, j in spots for other in ((i + 1, j), (i, j + 1)) if other in spots]
        joined = {(a, b) for a, b in pairs if not self.reasons([spots[a], spots[b]], r, m)}
        return free, joined | {(b, a) for a, b in joined}


def step_counts(first, free, steps):
    """For each cell the least number of steps, found by going over all steps again until nothing changes."""
    counts = {first: 0} if first in free else {}
    changed = True
    while changed:
        changed = False
        for a, b in steps:
            if a in counts and counts[a] + 1 < counts.get(b, 1000):
                counts[b] = counts[a] + 1
                changed = True
    return counts


def by_rows(cells, columns, rows):
    return [rows] + [sum(2 ** i for i in range(columns) if (i, j) in cells) for j in range(rows)]


class Reckoning(unittest.TestCase):
    def test_skeletons_and_forms(self):
        source = random.Random(1)
        right = 0
        for trial in range(3000):
            points = some_points(source, source.randint(1, 6), 3)
            text = "copper 1\noutline 0 0 9 0 9 9\nkeep all 1 1 0 " + words(points)
            answer = ask(load(0, text), printing(0))
            self.assertEqual(answer[0], [0] if is_skeleton(points) else [-103], points)
            if answer[0] == [0]:
                right += 1
                line = bytes(answer[1][1:]).decode().splitlines()[2]
                self.assertEqual(line, "keep all 1 1 0 " + words(in_form(points)))
        self.assertGreater(right, 800)

    def test_points(self):
        source = random.Random(2)
        for trial in range(120):
            outline = some_skeleton(source, source.randint(3, 7), 4)
            spots = [(x, y) for x in range(-5, 6) for y in range(-5, 6)]
            answer = ask(load(0, "copper 1\noutline " + words(outline)), *[point(0, x, y) for x, y in spots])
            names = ([0, 0], [1, 0], [4, 0])
            self.assertEqual(answer[1:], [names[where(spot, outline)] for spot in spots], outline)

    def test_cuts(self):
        source = random.Random(3)
        fitting = 0
        for trial in range(800):
            outline = some_outline(source, 9)
            hole = some_skeleton(source, source.randint(3, 5), 4)
            fitting += fits(hole, outline)
            answer = ask(load(0, f"copper 1\noutline {words(outline)}\ncut {words(hole)}\n"))
            self.assertEqual(answer, [[0] if fits(hole, outline) else [-103]], (outline, hole))
        self.assertGreater(fitting, 50)

    def test_two_cuts(self):
        source = random.Random(4)
        text = "copper 1\noutline -20 -20 20 -20 20 20 -20 20\n"
        for trial in range(600):
            cuts = [some_skeleton(source, source.randint(3, 5), 5) for number in range(2)]
            apart = distance_square(cuts[0], cuts[1]) >= 1
            answer = ask(load(0, text + f"cut {words(cuts[0])}\ncut {words(cuts[1])}\n"))
            self.assertEqual(answer, [[0] if apart else [-104]], cuts)

    def board_with(self, outline, hole, keeps):
        """A board with the cut-out, if it fits, and these keep-outs; and its text."""
        text = f"copper 1\noutline {words(outline)}\n"
        text += "".join(f"keep all 1 1 {radius} {words(kept)}\n" for radius, kept in keeps)
        if not fits(hole, outline):
            return Board(outline, [], keeps), text
        return Board(outline, [hole], keeps), text + f"cut {words(hole)}\n"

    def some_board(self, source):
        keeps = [(source.randint(0, 2), some_skeleton(source, source.randint(1, 5), 9)) for number in range(2)]
        return self.board_with(some_outline(source, 16), some_skeleton(source, 3, 5), keeps)

    def some_wide_board(self, source):
        keeps = [(source.randint(0, 1), some_small_skeleton(source, source.randint(1, 4))) for number in range(2)]
        keeps.append((0, some_skeleton(source, 2, 14)))
        return self.board_with(some_wide_outline(source), some_small_skeleton(source, 3), keeps)

    def test_may_and_all(self):
        source = random.Random(5)
        counts = {}
        for trial in range(150):
            board, text = self.some_board(source)
            calls, expected = [load(0, text)], [[0]]
            for number in range(10):
                thing = some_skeleton(source, source.randint(1, 5), 7)
                r, m = source.randint(0, 2), source.randint(1, 3)
                found = board.reasons(thing, r, m)
                calls += [may(0, 0, 1, 1, r, m, *flat(thing)), reasons(0, 0, 1, 1, r, m, *flat(thing))]
                expected += [(flat(found) + [0, 0])[:2], [len(found)] + flat(found)]
                counts[expected[-2][0]] = counts.get(expected[-2][0], 0) + 1
            self.assertEqual(ask(*calls), expected, calls)
        self.assertGreater(min(counts.get(reason, 0) for reason in range(5)), 20, counts)

    def test_room(self):
        source = random.Random(6)
        counts = {}
        for trial in range(60):
            board, text = self.some_wide_board(source)
            calls, expected = [load(0, text)], [[0]]
            for number in range(10):
                thing = some_small_skeleton(source, source.randint(1, 4))
                r = source.randint(0, 2)
                margin = board.room(thing, r)
                calls.append(room(0, 0, 1, 1, r, *flat(thing)))
                expected.append([margin] + list(board.reasons(thing, r, margin + 1)[0]))
                counts[margin] = counts.get(margin, 0) + 1
            self.assertEqual(ask(*calls), expected, calls)
        self.assertGreater(min(counts.get(margin, 0) for margin in range(4)), 20, counts)

    def test_rasters(self):
        source = random.Random(7)
        partly = unlike = 0
        for trial in range(80):
            board, text = self.some_wide_board(source)
            r, m, pitch = source.randint(0, 1), source.randint(1, 2), source.randint(1, 5)
            columns, rows = source.randint(1, 6), source.randint(1, 6)
            x, y = source.randint(-15, 0), source.randint(-15, 0)
            told = (0, 1, 1, r, m, x, y, pitch, columns, rows)
            free, steps = board.cells(x, y, pitch, columns, rows, r, m)
            calls, expected = [load(0, text), raster(0, *told)], [[0], by_rows(free, columns, rows)]
            for number in range(8):
                first, end = [(source.randrange(columns), source.randrange(rows)) for number in range(2)]
                counts = step_counts(first, free, steps)
                calls += [reach(0, *told, *first), way(0, *told, *first, *end)]
                expected += [by_rows(counts, columns, rows), [1, counts[end]] if end in counts else [0, 0]]
                unlike += 0 < len(counts) < len(free)
            partly += 0 < len(free) < columns * rows
            self.assertEqual(ask(*calls), expected, calls)
        self.assertGreater(partly, 20)
        self.assertGreater(unlike, 60)

    def test_keeps_and_cuts_by_calls(self):
        source = random.Random(8)
        counts = {}
        for trial in range(150):
            outline = some_wide_outline(source)
            board = Board(outline, [], [])
            calls, expected = [load(0, "copper 1\noutline " + words(outline))], [[0]]
            for number in range(8):
                points = self.some_small_points(source)
                calls += [cut(0, *flat(points)), keep(0, 3, 1, 1, 0, *flat(points))]
                expected.append([self.added_cut(board, points)])
                expected.append([len(board.keeps) if is_skeleton(points) else -9])
                if is_skeleton(points):
                    board.keeps.append((0, in_form(points)))
                counts[expected[-2][0]] = counts.get(expected[-2][0], 0) + 1
            lines = ["copper 1", "outline " + words(outline)] + ["cut " + words(hole) for hole in board.cuts]
            text = "".join(line + "\n" for line in lines + ["keep all 1 1 0 " + words(kept) for r, kept in board.keeps])
            self.assertEqual(ask(*calls, printing(0)), expected + [[len(text)] + list(text.encode())], calls)
        self.assertGreater(min(counts.get(answer, 0) for answer in (0, 1, -9, -12)), 10, counts)

    def some_small_points(self, source):
        if source.randint(0, 1):
            return some_small_skeleton(source, source.randint(2, 5))
        return some_points(source, source.randint(2, 4), 3)

    def added_cut(self, board, points):
        """What cut answers; the board is changed accordingly."""
        if len(points) < 3 or not is_skeleton(points):
            return -9
        if not fits(points, board.outline) or any(distance_square(points, hole) < 1 for hole in board.cuts):
            return -12
        board.cuts.append(in_form(points))
        return len(board.cuts) - 1


if __name__ == "__main__":
    unittest.main()
