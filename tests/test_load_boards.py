"""Texts of boards: the stack, the outline, cut-outs and keep-outs."""

import unittest

from tests.helper import LIMIT, SQUARE, comb, last, loaded, printed, size, square, words

OUTLINE = "outline 0 0 9 0 9 9\n"


def stack(coppers):
    return "core 2\n".join(["copper 1\n"] * coppers)


class Stack(unittest.TestCase):
    def test_1_to_8_copper_layers(self):
        for coppers in range(1, 9):
            with self.subTest(coppers):
                self.assertEqual(last(stack(coppers) + OUTLINE, size(0))[:2], [coppers, 3 * coppers - 2])

    def test_ninth_copper_layer(self):
        self.assertEqual(loaded(stack(9) + OUTLINE), -117)

    def test_core_behind_the_eighth_copper_layer(self):
        self.assertEqual(loaded(stack(8) + "core 2\n" + OUTLINE), -117)
        self.assertEqual(loaded(stack(8) + "core 2\n"), -117)
        self.assertEqual(loaded(stack(8) + "core 2\ncore 2\n"), -117)

    def test_order(self):
        self.assertEqual(loaded("core 1\n"), -101)
        self.assertEqual(loaded("copper 1\ncopper 1\n"), -102)
        self.assertEqual(loaded("copper 1\ncore 1\ncore 1\n"), -103)
        self.assertEqual(loaded("copper 1\ncore 1\n" + OUTLINE), -103)
        self.assertEqual(loaded(OUTLINE), -101)
        self.assertEqual(loaded("copper 1\n# a\n\ncore 1\n\n#\ncopper 2\n\n" + OUTLINE), 0)

    def test_stack_behind_the_outline(self):
        self.assertEqual(loaded("copper 1\n" + OUTLINE + "core 1\n"), -103)
        self.assertEqual(loaded("copper 1\n" + OUTLINE + "copper 1\n"), -103)
        self.assertEqual(loaded("copper 1\n" + OUTLINE + OUTLINE), -103)

    def test_thickness(self):
        for word, right in (("1", True), ("10000000", True), ("0", False), ("10000001", False), ("-1", False),
                            ("x", False), ("", False), ("1 1", False), ("01", False)):
            with self.subTest(word):
                self.assertEqual(loaded(f"copper {word}\n" + OUTLINE), 0 if right else -101)
                self.assertEqual(loaded(f"copper 1\ncore {word}\ncopper 1\n" + OUTLINE), 0 if right else -102)


class Outline(unittest.TestCase):
    def answer(self, points):
        return loaded("copper 1\noutline " + words(points))

    def assert_right(self, *points):
        self.assertEqual(self.answer(points), 0, points)
        self.assertEqual(self.answer(points[::-1]), 0, points)

    def assert_wrong(self, *points):
        for first in range(len(points)):
            told = points[first:] + points[:first]
            self.assertEqual(self.answer(told), -102, told)
            self.assertEqual(self.answer(told[::-1]), -102, told)

    def test_number_of_points(self):
        self.assertEqual(self.answer([]), -102)
        self.assertEqual(self.answer(comb(1)), -102)
        self.assertEqual(self.answer([(0, 0), (1, 1)]), -102)
        self.assertEqual(self.answer([(0, 0), (1, 1), (0, 1)]), 0)
        self.assertEqual(self.answer(comb(32)), 0)
        self.assertEqual(self.answer(comb(33)), -102)

    def test_odd_number_of_numbers(self):
        self.assertEqual(loaded("copper 1\noutline 0 0 9 0 9 9 0"), -102)
        self.assertEqual(loaded("copper 1\noutline 0 0 9 0 9"), -102)
        self.assertEqual(loaded("copper 1\noutline"), -102)

    def test_word_that_is_no_number(self):
        self.assertEqual(loaded("copper 1\noutline 0 0 9 0 9 9 x 9"), -102)

    def test_coordinates_at_both_ends_of_their_range(self):
        corners = [(-LIMIT, -LIMIT), (LIMIT, -LIMIT), (LIMIT, LIMIT), (-LIMIT, LIMIT)]
        self.assertEqual(self.answer(corners), 0)
        for i in range(4):
            for dx, dy in ((1, 0), (-1, 0), (0, 1), (0, -1)):
                told = list(corners)
                told[i] = (told[i][0] + dx, told[i][1] + dy)
                in_range = max(abs(told[i][0]), abs(told[i][1])) <= LIMIT
                self.assertEqual(self.answer(told), 0 if in_range else -102, told)

    def test_flat_corners(self):
        self.assert_right((0, 0), (4, 0), (9, 0), (9, 9), (5, 5))
        self.assert_right((0, 0), (9, 0), (9, 9), (9, 12), (0, 12), (0, 1))

    def test_no_area(self):
        self.assert_wrong((0, 0), (1, 1), (2, 2))
        self.assert_wrong((0, 0), (2, 2), (1, 1))
        self.assert_wrong((0, 0), (2, 0), (2, 0))
        self.assert_wrong((0, 0), (0, 0), (0, 0))
        self.assert_wrong((0, 0), (3, 0), (5, 0), (2, 0))

    def test_like_corners(self):
        self.assert_wrong((0, 0), (9, 0), (9, 0), (9, 9))
        self.assert_wrong((0, 0), (9, 0), (9, 9), (0, 0))
        self.assert_wrong((0, 0), (4, -4), (8, 0), (0, 0), (-8, 4), (-4, 8))

    def test_folding_back(self):
        self.assert_wrong((0, 0), (9, 0), (5, 0), (5, 9))
        self.assert_wrong((0, 0), (9, 0), (9, 9), (9, 4), (0, 4))
        self.assert_wrong((0, 0), (6, 3), (9, 9), (5, 5), (7, 7), (0, 9))

    def test_crossing(self):
        self.assert_wrong((0, 0), (9, 9), (9, 0), (0, 9))
        self.assert_wrong((0, 0), (9, 0), (9, 9), (4, -1), (0, 9))

    def test_touching(self):
        self.assert_wrong((0, 0), (9, 0), (9, 9), (4, 0), (0, 9))
        self.assert_wrong((0, 0), (4, 4), (8, 0), (8, 9), (4, 4), (0, 9))
        self.assert_wrong((0, 0), (8, 0), (8, 5), (6, 5), (6, 0), (4, 0), (4, 5), (0, 5))

    def test_near_but_not_touching(self):
        self.assert_right((0, 0), (9, 0), (9, 9), (4, 1), (0, 9))
        self.assert_right((0, 0), (LIMIT, 1), (LIMIT, LIMIT), (LIMIT - 1, 1))
        self.assert_right((0, 0), (2, 0), (2, 4), (3, 4), (3, 0), (5, 0), (5, 9), (0, 9))
        self.assert_right((0, 0), (9, 0), (9, 5), (0, 5), (0, 3), (4, 3), (4, 2), (0, 2))
        self.assert_wrong((0, 0), (LIMIT, 2), (LIMIT, LIMIT), (LIMIT // 2, 1), (-1, LIMIT))

    def test_only_one_outline_and_only_behind_copper(self):
        self.assertEqual(loaded("copper 1\ncore 1\noutline 0 0 9 0 9 9\n"), -103)
        self.assertEqual(loaded("copper 1\noutline 0 0 9 9 0 9\noutline 0 0 9 9 0 9\n"), -103)


class Cuts(unittest.TestCase):
    def answer(self, *cuts):
        return loaded(SQUARE + "".join(f"cut {words(cut)}\n" for cut in cuts))

    def assert_right(self, *cuts):
        self.assertEqual(self.answer(*cuts), 0)

    def assert_wrong(self, *cuts):
        self.assertEqual(self.answer(*cuts), -102 - len(cuts))

    def test_before_the_outline(self):
        self.assertEqual(loaded("copper 1\ncut 1 1 2 1 2 2\noutline 0 0 9 0 9 9\n"), -102)

    def test_points(self):
        self.assert_wrong([])
        self.assert_wrong([(5, 5)])
        self.assert_wrong([(5, 5), (6, 6)])
        self.assert_right([(5, 5), (6, 6), (5, 6)])
        self.assert_wrong([(5, 5), (6, 6), (7, 7)])
        self.assert_wrong([(5, 5), (8, 8), (8, 5), (5, 8)])
        self.assertEqual(loaded(SQUARE + "cut 5 5 6 6 5 6 5\n"), -103)
        self.assertEqual(loaded(SQUARE + "cut 5 5 6 6 5 x\n"), -103)

    def test_32_and_33_points(self):
        big = f"copper 1\noutline {words(square(-2000, -2000, 4000))}\ncut "
        self.assertEqual(loaded(big + words(comb(32))), 0)
        self.assertEqual(loaded(big + words(comb(33))), -103)

    def test_8_and_9_cuts(self):
        cuts = [square(10 * i + 1, 1) for i in range(9)]
        self.assert_right(*cuts[:8])
        self.assert_wrong(*cuts)

    def test_apart_by_1_from_the_outline(self):
        self.assert_right(square(1, 1, 98))
        self.assert_wrong(square(0, 1, 98))
        self.assert_wrong(square(1, 2, 98))
        self.assert_wrong(square(0, 0, 100))

    def test_outside(self):
        self.assert_wrong(square(200, 0))
        self.assert_wrong(square(98, 50))
        self.assert_wrong(square(-10, -10, 120))

    def test_less_than_1_from_a_slanting_side(self):
        text = "copper 1\noutline 0 0 40 30 0 60\ncut "
        self.assertEqual(loaded(text + "5 30 1 2 4 25\n"), 0)
        # From (0, 0) to (40, 30): the distance of (x, y) is (4y - 3x) / 5.
        self.assertEqual(loaded(text + "11 9 11 19 10 19\n"), -103)
        self.assertEqual(loaded(text + "9 8 11 19 10 19\n"), 0)
        self.assertEqual(loaded(text + "12 10 13 19 12 19\n"), -103)

    def test_corners_inside_but_a_side_of_the_outline_between(self):
        text = "copper 1\noutline 0 0 30 0 30 30 15 5 0 30\ncut "
        self.assertEqual(loaded(text + "2 20 15 3 28 20 15 2\n"), 0)
        self.assertEqual(loaded(text + "2 20 15 1 28 20\n"), -103)

    def test_apart_by_1_from_earlier_cuts(self):
        self.assert_right(square(10, 10), square(16, 10))
        self.assert_right(square(10, 10), square(16, 16))
        self.assert_wrong(square(10, 10), square(15, 10))
        self.assert_wrong(square(10, 10), square(15, 15))
        self.assert_wrong(square(10, 10), square(12, 12))
        self.assert_wrong(square(10, 10), square(50, 50), square(12, 12))

    def test_less_than_1_from_an_earlier_cut(self):
        self.assert_wrong([(10, 10), (50, 40), (10, 40)], [(11, 10), (50, 10), (50, 38)])
        self.assert_right([(10, 10), (50, 40), (10, 40)], [(12, 10), (50, 10), (50, 38)])

    def test_one_within_the_other(self):
        self.assert_wrong(square(10, 10, 50), square(30, 30))
        self.assert_wrong(square(30, 30), square(10, 10, 50))

    def test_in_any_order_with_keeps(self):
        self.assertEqual(printed(SQUARE + "keep all 1 1 0 5 5\ncut 5 5 6 6 5 6\nkeep via 1 1 9 7 7\n"),
                         SQUARE + "cut 5 5 6 6 5 6\nkeep all 1 1 0 5 5\nkeep via 1 1 9 7 7\n")


class Keeps(unittest.TestCase):
    def answer(self, rest, coppers):
        return loaded(stack(coppers) + OUTLINE + "keep " + rest)

    def assert_right(self, rest, coppers=3):
        self.assertEqual(self.answer(rest, coppers), 0, rest)

    def assert_wrong(self, rest, coppers=3):
        keep_line = 2 * coppers + 1
        self.assertEqual(self.answer(rest, coppers), -100 - keep_line, rest)

    def test_before_the_outline(self):
        self.assertEqual(loaded("copper 1\nkeep all 1 1 0 5 5\n" + OUTLINE), -102)

    def test_kinds(self):
        for kind in ("track", "via", "part", "all"):
            self.assert_right(kind + " 1 1 0 5 5")
        for kind in ("Track", "vias", "par", "none", "0", "3", "trackvia"):
            self.assert_wrong(kind + " 1 1 0 5 5")

    def test_layers(self):
        for lo, hi in ((1, 1), (1, 3), (2, 2), (2, 3), (3, 3)):
            self.assert_right(f"all {lo} {hi} 0 5 5")
        for lo, hi in ((0, 1), (-1, 1), (2, 1), (3, 2), (1, 4), (4, 4), (3, 4), ("x", 1), (1, "x"), ("01", 1)):
            self.assert_wrong(f"all {lo} {hi} 0 5 5")
        self.assert_right("all 1 1 0 5 5", 1)
        self.assert_wrong("all 1 2 0 5 5", 1)
        self.assert_right("all 8 8 0 5 5", 8)
        self.assert_wrong("all 8 9 0 5 5", 8)

    def test_radius(self):
        for radius in ("0", "1", "1000000000"):
            self.assert_right(f"all 1 1 {radius} 5 5")
        for radius in ("-1", "1000000001", "x", "-0", "00"):
            self.assert_wrong(f"all 1 1 {radius} 5 5")

    def test_points(self):
        self.assert_wrong("all 1 1 0")
        self.assert_wrong("all 1 1 0 5")
        self.assert_right("all 1 1 0 5 5")
        self.assert_wrong("all 1 1 0 5 5 6")
        self.assert_right("all 1 1 0 5 5 6 6")
        self.assert_wrong("all 1 1 0 5 5 5 5")
        self.assert_right("all 1 1 0 5 5 6 6 5 6")
        self.assert_wrong("all 1 1 0 5 5 6 6 7 7")
        self.assert_wrong("all 1 1 0 0 0 9 9 9 0 0 9")
        self.assert_right("all 1 1 0 " + words(comb(32)))
        self.assert_wrong("all 1 1 0 " + words(comb(33)))
        self.assert_wrong("all 1 1 0 5 x")

    def test_range(self):
        self.assert_right("all 1 1 0 1000000000 -1000000000")
        self.assert_right("all 1 1 0 -1000000000 1000000000")
        for told in ("1000000001 0", "0 1000000001", "-1000000001 0", "0 -1000000001"):
            self.assert_wrong("all 1 1 0 " + told)

    def test_too_few_words(self):
        for rest in ("", "all", "all 1", "all 1 1"):
            self.assert_wrong(rest)

    def test_anywhere_and_over_one_another(self):
        text = "copper 1\n" + OUTLINE + "cut 5 2 7 2 7 4\n" + "keep all 1 1 9 500 500\n" * 2 + "keep all 1 1 9 6 3\n"
        self.assertEqual(printed(text), text)

    def test_32_and_33_keeps(self):
        self.assertEqual(loaded("copper 1\n" + OUTLINE + "keep all 1 1 0 5 5\n" * 32), 0)
        self.assertEqual(loaded("copper 1\n" + OUTLINE + "keep all 1 1 0 5 5\n" * 33), -135)


if __name__ == "__main__":
    unittest.main()
