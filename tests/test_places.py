"""The calls copy, same, size, area and between, and the two places."""

import unittest

from tests.helper import (FULL, HUGE, SQUARE, area, ask, between, copy, cut, cutout, keep, keepout, last, load, may,
                          mirror, point, printing, raster, reach, reasons, room, same, shift, size, turn, uncut, unkeep, way)

NO_PLACES = (-1, 2, 3, -HUGE, HUGE)


def on_place(place):
    """Each call that asks for the board of one place, with right arguments else."""
    return [printing(place), size(place), area(place), mirror(place), shift(place, 1, 1), turn(place, 1),
            point(place, 5, 5), between(place, 1, 2), may(place, 0, 1, 1, 0, 1, 50, 20),
            reasons(place, 0, 1, 1, 0, 1, 50, 20), room(place, 0, 1, 1, 0, 50, 20), keep(place, 0, 1, 1, 0, 50, 20),
            unkeep(place, 0), keepout(place, 0), cut(place, 50, 50, 60, 50, 60, 60), uncut(place, 0), cutout(place, 0),
            raster(place, 0, 1, 1, 0, 1, 50, 20, 1, 2, 2), reach(place, 0, 1, 1, 0, 1, 50, 20, 1, 2, 2, 0, 0),
            way(place, 0, 1, 1, 0, 1, 50, 20, 1, 2, 2, 0, 0, 1, 1)]


def on_place_with_wrong_arguments(place):
    """Calls with all arguments wrong but perhaps the place."""
    return [shift(place, HUGE, HUGE), point(place, HUGE, HUGE), between(place, 0, 0),
            may(place, 9, 9, 0, -1, 0), may(place, 9, 9, 0, -1, 0, HUGE, 0, 0), reasons(place, 9, 9, 0, -1, 0),
            room(place, 9, 9, 0, -1), keep(place, 9, 9, 0, -1), unkeep(place, -1), keepout(place, -1), cut(place),
            uncut(place, -1), cutout(place, -1), raster(place, 9, 9, 0, -1, 0, HUGE, HUGE, 0, 0, 0),
            reach(place, 9, 9, 0, -1, 0, HUGE, HUGE, 0, 0, 0, -1, -1),
            way(place, 9, 9, 0, -1, 0, HUGE, HUGE, 0, 0, 0, -1, -1, -1, -1)]


class Places(unittest.TestCase):
    def test_no_place(self):
        for place in NO_PLACES:
            for call in on_place(place) + on_place_with_wrong_arguments(place):
                with self.subTest(call):
                    self.assertEqual(ask(call), [[-1]])
                    self.assertEqual(ask(load(0, FULL), load(1, FULL), call), [[0], [0], [-1]])

    def test_empty_place(self):
        for place in (0, 1):
            for call in on_place(place) + on_place_with_wrong_arguments(place):
                with self.subTest(call):
                    self.assertEqual(ask(call), [[-2]])
                    self.assertEqual(ask(load(1 - place, FULL), call), [[0], [-2]])

    def test_both_places(self):
        for place in (0, 1):
            for call in on_place(place):
                with self.subTest(call):
                    self.assertGreaterEqual(ask(load(place, FULL), call)[1][0], 0)

    def test_places_are_apart(self):
        answers = ask(load(0, FULL), load(1, SQUARE), size(0), size(1))
        self.assertEqual(answers[2:], [[3, 1823, 4, 2, 3], [1, 1, 4, 0, 0]])


class Copy(unittest.TestCase):
    def test_into_an_empty_place(self):
        self.assertEqual(ask(load(0, FULL), copy(1, 0), same(0, 1)), [[0], [0], [1]])
        self.assertEqual(ask(load(1, FULL), copy(0, 1), same(0, 1)), [[0], [0], [1]])

    def test_over_another_board(self):
        answers = ask(load(0, FULL), load(1, SQUARE), same(0, 1), copy(1, 0), same(0, 1), size(1))
        self.assertEqual(answers[2:], [[0], [0], [1], [3, 1823, 4, 2, 3]])

    def test_onto_itself(self):
        answers = ask(load(1, FULL), printing(1), copy(1, 1), printing(1))
        self.assertEqual(answers[2], [0])
        self.assertEqual(answers[3], answers[1])

    def test_copies_go_their_own_ways(self):
        for change in (lambda place: shift(place, 1, 0), mirror, lambda place: turn(place, 1),
                       lambda place: keep(place, 0, 1, 1, 0, 5, 5), lambda place: unkeep(place, 2),
                       lambda place: cut(place, 50, 50, 60, 50, 60, 60), lambda place: uncut(place, 0)):
            for place in (0, 1):
                answers = ask(load(0, FULL), copy(1, 0), printing(1), change(place), printing(1 - place), same(0, 1))
                self.assertEqual(answers[4], answers[2])
                self.assertEqual(answers[5], [0])

    def test_refusals(self):
        for place in NO_PLACES:
            self.assertEqual(ask(load(0, SQUARE), copy(place, 0)), [[0], [-1]])
            self.assertEqual(ask(load(0, SQUARE), copy(0, place)), [[0], [-1]])
            self.assertEqual(ask(copy(place, 0)), [[-1]])
            self.assertEqual(ask(copy(0, place)), [[-1]])
        self.assertEqual(ask(load(0, SQUARE), copy(0, 1), size(0)), [[0], [-2], [1, 1, 4, 0, 0]])
        self.assertEqual(ask(copy(0, 0)), [[-2]])
        self.assertEqual(ask(copy(1, 0)), [[-2]])


class Same(unittest.TestCase):
    def same(self, first, second):
        return ask(load(0, first), load(1, second), same(0, 1))[2] + ask(load(0, first), load(1, second), same(1, 0))[2]

    def assert_same(self, first, second):
        self.assertEqual(self.same(first, second), [1, 1])

    def assert_unlike(self, first, second):
        self.assertEqual(self.same(first, second), [0, 0])

    def test_same(self):
        self.assert_same(FULL, FULL)
        self.assertEqual(ask(load(0, FULL), same(0, 0)), [[0], [1]])

    def test_told_otherwise(self):
        self.assert_same(SQUARE, "#\ncopper 1\noutline 100 100 100 0 0 0 0 100")
        self.assert_same(SQUARE + "keep all 1 1 0 1 2 3 4\n", SQUARE + "keep all 1 1 0 3 4 1 2\n")
        self.assert_same(SQUARE + "cut 5 5 9 5 9 9\nkeep all 1 1 0 1 2\n",
                         SQUARE + "keep all 1 1 0 1 2\ncut 9 9 9 5 5 5\n")

    def test_stack(self):
        outline = "outline 0 0 9 0 9 9\n"
        self.assert_unlike("copper 1\n" + outline, "copper 2\n" + outline)
        self.assert_unlike("copper 1\ncore 2\ncopper 3\n" + outline, "copper 3\ncore 2\ncopper 1\n" + outline)
        self.assert_unlike("copper 1\ncore 2\ncopper 3\n" + outline, "copper 1\ncore 3\ncopper 3\n" + outline)
        self.assert_unlike("copper 1\ncore 1\ncopper 1\n" + outline, "copper 1\n" + outline)

    def test_outline(self):
        self.assert_unlike(SQUARE, "copper 1\noutline 0 0 100 0 100 100 0 99\n")
        self.assert_unlike(SQUARE, "copper 1\noutline 0 0 50 0 100 0 100 100 0 100\n")

    def test_cuts(self):
        cuts = ("cut 5 5 9 5 9 9\n", "cut 15 15 19 15 19 19\n")
        self.assert_same(SQUARE + cuts[0] + cuts[1], SQUARE + cuts[0] + cuts[1])
        self.assert_unlike(SQUARE + cuts[0] + cuts[1], SQUARE + cuts[1] + cuts[0])
        self.assert_unlike(SQUARE + cuts[0] + cuts[1], SQUARE + cuts[0])
        self.assert_unlike(SQUARE + cuts[0], SQUARE + cuts[1])

    def test_keeps(self):
        text = "copper 1\ncore 1\ncopper 1\noutline 0 0 100 0 100 100 0 100\n"
        keep = "keep via 1 1 5 7 8\n"
        for other in ("keep all 1 1 5 7 8\n", "keep via 1 2 5 7 8\n", "keep via 2 2 5 7 8\n", "keep via 1 1 4 7 8\n",
                      "keep via 1 1 5 8 7\n", "keep via 1 1 5 7 8 9 9\n", ""):
            self.assert_unlike(text + keep, text + other)
            self.assert_unlike(text + keep + other, text + other + keep + keep)
        self.assert_unlike(text + keep + "keep all 1 1 0 1 1\n", text + "keep all 1 1 0 1 1\n" + keep)

    def test_refusals(self):
        for place in NO_PLACES:
            self.assertEqual(ask(load(0, SQUARE), same(place, 0), same(0, place)), [[0], [-1], [-1]])
            self.assertEqual(ask(same(place, 0), same(0, place)), [[-1], [-1]])
        self.assertEqual(ask(load(0, SQUARE), same(0, 1), same(1, 0), same(1, 1)), [[0], [-2], [-2], [-2]])


class Size(unittest.TestCase):
    def test_size(self):
        self.assertEqual(last(FULL, size(0)), [3, 35 + 1500 + 70 + 200 + 18, 4, 2, 3])
        self.assertEqual(last("copper 10000000\noutline 0 0 5 0 9 0 9 9 4 5\n", size(0)), [1, 10000000, 5, 0, 0])


class Area(unittest.TestCase):
    def test_outline(self):
        self.assertEqual(last(SQUARE, area(0)), [20000])
        self.assertEqual(last("copper 1\noutline 0 0 0 1 1 0", area(0)), [1])
        self.assertEqual(last("copper 1\noutline 3 0 6 9 3 2 0 9", area(0)), [12])

    def test_less_the_cuts(self):
        self.assertEqual(last(FULL, area(0)), [20000 - 200 - 100])
        self.assertEqual(last(SQUARE + "cut 5 5 5 9 9 9 9 5\n", area(0)), [20000 - 32])

    def test_keeps_do_not_count(self):
        self.assertEqual(last(SQUARE + "keep all 1 1 9 5 5 5 9 9 9\n", area(0)), [20000])

    def test_greatest(self):
        text = "copper 1\noutline -1000000000 -1000000000 1000000000 -1000000000 1000000000 1000000000 " \
               "-1000000000 1000000000\n"
        self.assertEqual(last(text, area(0)), [8 * 10 ** 18])


class Between(unittest.TestCase):
    def test_between(self):
        for i, j, thickness in ((1, 2, 1500), (2, 3, 200), (1, 3, 1500 + 70 + 200)):
            self.assertEqual(last(FULL, between(0, i, j)), [thickness])
            self.assertEqual(last(FULL, between(0, j, i)), [thickness])

    def test_eight_layers(self):
        lines = [f"{('copper', 'core')[i % 2]} {3 ** i}\n" for i in range(15)]
        text = "".join(lines) + "outline 0 0 9 0 9 9\n"
        for i in range(1, 9):
            for j in range(i + 1, 9):
                expected = sum(3 ** k for k in range(2 * i - 1, 2 * j - 2))
                self.assertEqual(last(text, between(0, j, i)), [expected])

    def test_refusals(self):
        for i, j in ((1, 1), (3, 3), (0, 1), (1, 0), (1, 4), (4, 1), (4, 4), (0, 4), (-1, 2), (HUGE, 1), (1, -HUGE)):
            self.assertEqual(last(FULL, between(0, i, j)), [-3])
        self.assertEqual(last(SQUARE, between(0, 1, 1)), [-3])
        self.assertEqual(last(SQUARE, between(0, 1, 2)), [-3])


if __name__ == "__main__":
    unittest.main()
