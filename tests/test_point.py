"""The call point."""

import unittest

from tests.helper import FULL, HUGE, LIMIT, SQUARE, ask, last, load, mirror, point

DENTED = "copper 1\noutline 0 0 30 0 30 30 15 5 0 30\n"


class Point(unittest.TestCase):
    def assert_points(self, text, expected, *points):
        for x, y in points:
            self.assertEqual(last(text, point(0, x, y)), expected, (x, y))

    def test_outside(self):
        self.assert_points(FULL, [0, 0], (-1, 0), (0, -1), (101, 100), (50, 101), (-50, 50), (LIMIT, -LIMIT))

    def test_on_a_side_of_the_outline(self):
        self.assert_points(FULL, [1, 0], (0, 0), (100, 0), (100, 100), (0, 100), (50, 0), (100, 1), (99, 100), (0, 70))

    def test_on_a_side_of_a_cut(self):
        self.assert_points(FULL, [2, 0], (10, 10), (20, 20), (15, 10), (20, 11), (10, 19))
        self.assert_points(FULL, [2, 1], (70, 70), (80, 70), (80, 80), (75, 75), (80, 71))

    def test_in_a_cut(self):
        self.assert_points(FULL, [3, 0], (11, 11), (19, 19), (15, 15))
        self.assert_points(FULL, [3, 1], (75, 74), (79, 71))

    def test_else(self):
        self.assert_points(FULL, [4, 0], (1, 1), (99, 99), (9, 10), (21, 15), (75, 76), (50, 50), (65, 25))

    def test_outline_with_a_dent(self):
        self.assert_points(DENTED, [0, 0], (15, 30), (15, 6), (1, 30), (29, 30), (-5, 5), (31, 30), (-5, 0))
        self.assert_points(DENTED, [1, 0], (15, 5), (0, 30), (30, 30), (3, 25), (27, 25))
        self.assert_points(DENTED, [4, 0], (15, 4), (1, 5), (29, 5), (2, 26), (28, 26), (14, 5), (16, 5))

    def test_heights_of_corners(self):
        text = "copper 1\noutline 0 0 4 4 8 0 12 4 8 8 4 8\n"
        self.assert_points(text, [4, 0], (5, 4), (11, 4), (4, 5), (8, 1), (4, 7))
        self.assert_points(text, [1, 0], (4, 4), (12, 4), (2, 2), (2, 4), (4, 8), (6, 8))
        self.assert_points(text, [0, 0], (4, 0), (1, 4), (13, 4), (4, 3), (3, 8), (9, 8), (-1, 0))

    def test_far_corners(self):
        text = f"copper 1\noutline {-LIMIT} {-LIMIT} {LIMIT} {LIMIT - 1} {-LIMIT} {LIMIT}\n"
        self.assert_points(text, [1, 0], (-LIMIT, -LIMIT), (LIMIT, LIMIT - 1), (-LIMIT, 0))
        self.assert_points(text, [0, 0], (LIMIT - 1, LIMIT - 2), (0, -1), (LIMIT, LIMIT))
        self.assert_points(text, [4, 0], (LIMIT - 1, LIMIT - 1), (0, 0), (-1, -1))

    def test_after_a_change(self):
        self.assertEqual(ask(load(0, FULL), mirror(0), point(0, -15, 15), point(0, 15, 15))[2:], [[3, 0], [0, 0]])

    def test_range(self):
        for x, y in ((LIMIT, LIMIT), (-LIMIT, -LIMIT)):
            self.assertEqual(last(SQUARE, point(0, x, y)), [0, 0])
        for x, y in ((LIMIT + 1, 0), (-LIMIT - 1, 0), (0, LIMIT + 1), (0, -LIMIT - 1), (HUGE, -HUGE)):
            self.assertEqual(last(SQUARE, point(0, x, y)), [-8])


if __name__ == "__main__":
    unittest.main()
