"""The program's answers beside those of a slow second reckoning, on many small boards and things.

The second reckoning goes another way: fractions and least distances in the place of compared squares, winding numbers
in the place of crossings. The small coordinates make touching, flat and overlapping cases common.
"""

import random
import unittest
from fractions import Fraction

from tests.helper import ask, load, may, point, printing, words


def minus(a, b):
    return (a[0] - b[0], a[1] - b[1])


def dot(a, b):
    return a[0] * b[0] + a[1] * b[1]


def cross(a, b):
    return a[0] * b[1] - a[1] * b[0]


def nearest_square(p, a, b):
    """The square of the least distance from the point p to the segment from a to b."""
    along = minus(b, a)
    part = Fraction(0)
    if a != b:
        part = min(Fraction(1), max(Fraction(0), Fraction(dot(minus(p, a), along), dot(along, along))))
    foot = (a[0] + part * along[0], a[1] + part * along[1])
    return dot(minus(p, foot), minus(p, foot))


def common(a, b, c, d):
    """The ends of what the segments from a to b and from c to d have in common: none, one or two points."""
    first, second = minus(b, a), minus(d, c)
    turn = cross(first, second)
    if turn != 0:
        s = Fraction(cross(minus(c, a), second), turn)
        t = Fraction(cross(minus(c, a), first), turn)
        if 0 <= s <= 1 and 0 <= t <= 1:
            return {(a[0] + s * first[0], a[1] + s * first[1])}
        return set()
    shared = {p for p in (a, b) if nearest_square(p, c, d) == 0}
    return shared | {p for p in (c, d) if nearest_square(p, a, b) == 0}


def sides(points):
    if len(points) == 1:
        return [(points[0], points[0])]
    if len(points) == 2:
        return [(points[0], points[1])]
    return [(p, points[(i + 1) % len(points)]) for i, p in enumerate(points)]


def is_skeleton(points):
    if len(points) < 3:
        return len(set(points)) == len(points)
    if any(a == b for a, b in sides(points)):
        return False
    told = sides(points)
    for i in range(len(told)):
        for j in range(i):
            shared = common(*told[i], *told[j])
            corner = {told[i][0]} if i == j + 1 else {told[j][0]} if (j, i) == (0, len(told) - 1) else set()
            if shared != corner:
                return False
    return True


def where(p, points):
    """0 outside, 1 on a side, 2 inside."""
    if any(nearest_square(p, a, b) == 0 for a, b in sides(points)):
        return 1
    winding = 0
    for a, b in sides(points):
        if a[1] <= p[1] < b[1] and cross(minus(b, a), minus(p, a)) > 0:
            winding += 1
        if b[1] <= p[1] < a[1] and cross(minus(b, a), minus(p, a)) < 0:
            winding -= 1
    return 2 if winding else 0


def distance_square(first, second):
    for one, other in ((first, second), (second, first)):
        if len(one) > 2 and any(where(p, one) for p in other):
            return 0
    least = []
    for a, b in sides(first):
        for c, d in sides(second):
            if common(a, b, c, d):
                return 0
            least += [nearest_square(a, c, d), nearest_square(b, c, d), nearest_square(c, a, b), nearest_square(d, a, b)]
    return min(least)


def in_form(points):
    if len(points) < 3:
        return sorted(points, key=lambda p: (p[1], p[0]))
    told = list(points)
    if sum(cross(a, b) for a, b in sides(points)) < 0:
        told = told[::-1]
    lowest = min(range(len(told)), key=lambda i: (told[i][1], told[i][0]))
    return told[lowest:] + told[:lowest]


def some_points(source, count, reach):
    return [(source.randint(-reach, reach), source.randint(-reach, reach)) for number in range(count)]


def some_skeleton(source, count, reach):
    points = some_points(source, count, reach)
    while not is_skeleton(points):
        points = some_points(source, count, reach)
    return points


def some_outline(source, reach):
    """An outline that has room for something."""
    while True:
        outline = some_skeleton(source, source.randint(3, 5), reach)
        if abs(sum(cross(a, b) for a, b in sides(outline))) > 2 * reach * reach:
            return in_form(outline)


class Reckoning(unittest.TestCase):
    def test_skeletons_and_forms(self):
        source = random.Random(1)
        right = 0
        for trial in range(3000):
            points = some_points(source, source.randint(1, 6), 3)
            text = "copper 1\noutline 0 0 9 0 9 9\nkeep all 1 1 0 " + words(points)
            answer = ask(load(0, text), printing(0))
            self.assertEqual(answer[0], [0] if is_skeleton(points) else [-103], points)
            if answer[0] == [0]:
                right += 1
                line = bytes(answer[1][1:]).decode().splitlines()[2]
                self.assertEqual(line, "keep all 1 1 0 " + words(in_form(points)))
        self.assertGreater(right, 800)

    def test_points(self):
        source = random.Random(2)
        for trial in range(120):
            outline = some_skeleton(source, source.randint(3, 7), 4)
            spots = [(x, y) for x in range(-5, 6) for y in range(-5, 6)]
            answer = ask(load(0, "copper 1\noutline " + words(outline)), *[point(0, x, y) for x, y in spots])
            names = ([0, 0], [1, 0], [4, 0])
            self.assertEqual(answer[1:], [names[where(spot, outline)] for spot in spots], outline)

    def test_cuts(self):
        source = random.Random(3)
        fitting = 0
        for trial in range(800):
            outline = some_outline(source, 9)
            cut = some_skeleton(source, source.randint(3, 5), 4)
            fits = all(where(corner, outline) for corner in cut)
            fits = fits and all(distance_square([a, b], cut) >= 1 for a, b in sides(outline))
            fitting += fits
            answer = ask(load(0, f"copper 1\noutline {words(outline)}\ncut {words(cut)}\n"))
            self.assertEqual(answer, [[0] if fits else [-103]], (outline, cut))
        self.assertGreater(fitting, 50)

    def test_two_cuts(self):
        source = random.Random(4)
        text = "copper 1\noutline -20 -20 20 -20 20 20 -20 20\n"
        for trial in range(600):
            cuts = [some_skeleton(source, source.randint(3, 5), 5) for number in range(2)]
            fits = distance_square(cuts[0], cuts[1]) >= 1
            answer = ask(load(0, text + f"cut {words(cuts[0])}\ncut {words(cuts[1])}\n"))
            self.assertEqual(answer, [[0] if fits else [-104]], cuts)

    def first_reason(self, outline, cuts, keeps, thing, r, m):
        if not all(where(spot, outline) for spot in thing):
            return [1, 0]
        for e, (a, b) in enumerate(sides(in_form(outline))):
            if distance_square([a, b], thing) < (r + m) ** 2:
                return [2, e]
        for i, cut in enumerate(cuts):
            if distance_square(cut, thing) < (r + m) ** 2:
                return [3, i]
        for i, (radius, keep) in enumerate(keeps):
            if distance_square(keep, thing) < (radius + r + m) ** 2:
                return [4, i]
        return [0, 0]

    def test_may(self):
        source = random.Random(5)
        counts = {}
        for trial in range(150):
            outline = some_outline(source, 16)
            keeps = [(source.randint(0, 2), some_skeleton(source, source.randint(1, 5), 9)) for number in range(2)]
            text = f"copper 1\noutline {words(outline)}\n"
            text += "".join(f"keep all 1 1 {radius} {words(keep)}\n" for radius, keep in keeps)
            cut = some_skeleton(source, 3, 5)
            with_cut = ask(load(0, text + f"cut {words(cut)}\n"))[0] == [0]
            calls, expected = [load(0, text + (f"cut {words(cut)}\n" if with_cut else ""))], [[0]]
            for number in range(10):
                thing = some_skeleton(source, source.randint(1, 5), 7)
                r, m = source.randint(0, 2), source.randint(1, 3)
                calls.append(may(0, 0, 1, 1, r, m, *[number for spot in thing for number in spot]))
                expected.append(self.first_reason(outline, [cut] if with_cut else [], keeps, thing, r, m))
                counts[expected[-1][0]] = counts.get(expected[-1][0], 0) + 1
            self.assertEqual(ask(*calls), expected, calls)
        self.assertGreater(min(counts.get(reason, 0) for reason in range(5)), 20, counts)


if __name__ == "__main__":
    unittest.main()
