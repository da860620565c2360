"""The call may: the reasons why not, and its refusals."""

import unittest

from tests.helper import FULL, HUGE, LIMIT, SQUARE, ask, comb, flat, last, load, may, mirror, printing, turn

STACK = "copper 1\ncore 1\ncopper 1\ncore 1\ncopper 1\noutline 0 0 100 0 100 100 0 100\n"


class Outline(unittest.TestCase):
    def may(self, r, m, *numbers):
        return last(SQUARE, may(0, 0, 1, 1, r, m, *numbers))

    def test_free(self):
        self.assertEqual(self.may(0, 1, 50, 50), [0, 0])
        self.assertEqual(self.may(10, 20, 40, 50, 60, 50), [0, 0])
        self.assertEqual(self.may(10, 20, 40, 40, 60, 40, 50, 60), [0, 0])

    def test_point_outside(self):
        self.assertEqual(self.may(0, 1, 101, 50), [1, 0])
        self.assertEqual(self.may(0, 1, 50, 50, 50, 101), [1, 0])
        self.assertEqual(self.may(0, 1, -50, -50, 150, -50, 150, 150), [1, 0])
        self.assertEqual(self.may(0, 1, 5, 5, 150, 150, -150, 150), [1, 0])

    def test_point_on_a_side_is_not_outside(self):
        self.assertEqual(self.may(0, 1, 50, 0), [2, 0])
        self.assertEqual(self.may(0, 1, 100, 100), [2, 1])
        self.assertEqual(self.may(0, 1, 0, 0, 100, 0, 100, 100, 0, 100), [2, 0])

    def test_distance_just_enough_and_one_less(self):
        for side, x, y in ((0, 50, 10), (1, 90, 50), (2, 50, 90), (3, 10, 50)):
            self.assertEqual(self.may(0, 10, x, y), [0, 0])
            self.assertEqual(self.may(0, 11, x, y), [2, side])
            self.assertEqual(self.may(7, 3, x, y), [0, 0])
            self.assertEqual(self.may(7, 4, x, y), [2, side])
            self.assertEqual(self.may(8, 3, x, y), [2, side])

    def test_lesser_side_first(self):
        self.assertEqual(self.may(0, 11, 90, 90), [2, 1])
        self.assertEqual(self.may(0, 11, 10, 10), [2, 0])
        self.assertEqual(self.may(0, 11, 10, 90), [2, 2])

    def test_slanting_side(self):
        text = "copper 1\noutline 0 0 400 300 0 600\n"
        # The distance of (x, y) from the first side is (4y - 3x) / 5.
        self.assertEqual(last(text, may(0, 0, 1, 1, 0, 20, 100, 100)), [0, 0])
        self.assertEqual(last(text, may(0, 0, 1, 1, 0, 21, 100, 100)), [2, 0])
        self.assertEqual(last(text, may(0, 0, 1, 1, 13, 7, 100, 100)), [0, 0])
        self.assertEqual(last(text, may(0, 0, 1, 1, 0, 20, 101, 100)), [2, 0])

    def test_thing_over_a_dent(self):
        text = "copper 1\noutline 0 0 30 0 30 30 15 5 0 30\n"
        self.assertEqual(last(text, may(0, 0, 1, 1, 0, 1, 3, 20, 27, 20)), [2, 2])
        self.assertEqual(last(text, may(0, 0, 1, 1, 0, 1, 3, 20, 15, 2, 27, 20)), [2, 2])
        self.assertEqual(last(text, may(0, 0, 1, 1, 0, 1, 3, 20, 15, 2, 27, 20, 15, 3)), [0, 0])
        self.assertEqual(last(text, may(0, 0, 1, 1, 0, 2, 3, 20, 15, 2, 27, 20, 15, 3)), [2, 2])

    def test_numbers_of_sides_are_those_of_the_form(self):
        text = "copper 1\noutline 100 100 100 0 0 0 0 100\n"
        self.assertEqual(last(text, may(0, 0, 1, 1, 0, 1, 100, 50)), [2, 1])
        self.assertEqual(ask(load(0, FULL), turn(0, 1), may(0, 0, 1, 1, 0, 1, -50, 0))[2], [2, 0])
        self.assertEqual(ask(load(0, FULL), mirror(0), may(0, 0, 1, 1, 0, 1, -100, 50))[2], [2, 3])

    def test_great_numbers(self):
        low = -LIMIT
        text = f"copper 1\noutline {low} {low} {LIMIT} {low} {LIMIT} {LIMIT} {low} {LIMIT}\n"
        self.assertEqual(last(text, may(0, 0, 1, 1, 0, LIMIT, 0, 0)), [0, 0])
        self.assertEqual(last(text, may(0, 0, 1, 1, 1, LIMIT, 0, 0)), [2, 0])
        self.assertEqual(last(text, may(0, 0, 1, 1, LIMIT - 1, 1, 0, 0)), [0, 0])
        self.assertEqual(last(text, may(0, 0, 1, 1, LIMIT, 1, 0, 0)), [2, 0])
        self.assertEqual(last(text, may(0, 0, 1, 1, 0, LIMIT, 0, 0, 0, 1)), [2, 2])


class Cuts(unittest.TestCase):
    TEXT = SQUARE + "cut 40 40 60 40 60 60 40 60\ncut 80 40 90 40 90 50\n"

    def may(self, r, m, *numbers):
        return last(self.TEXT, may(0, 2, 1, 1, r, m, *numbers))

    def test_distance_just_enough_and_one_less(self):
        self.assertEqual(self.may(0, 10, 30, 50), [0, 0])
        self.assertEqual(self.may(0, 11, 30, 50), [3, 0])
        self.assertEqual(self.may(4, 6, 30, 50), [0, 0])
        self.assertEqual(self.may(4, 7, 30, 50), [3, 0])
        # From (37, 36) to the corner (40, 40) it is 5.
        self.assertEqual(self.may(0, 5, 37, 36), [0, 0])
        self.assertEqual(self.may(0, 6, 37, 36), [3, 0])

    def test_within_one_another(self):
        self.assertEqual(self.may(0, 1, 50, 50), [3, 0])
        self.assertEqual(self.may(0, 1, 45, 50, 55, 50), [3, 0])
        self.assertEqual(self.may(0, 1, 45, 45, 55, 45, 50, 55), [3, 0])
        self.assertEqual(self.may(0, 1, 30, 30, 70, 30, 70, 70, 30, 70), [3, 0])
        self.assertEqual(self.may(0, 1, 75, 30, 95, 30, 95, 70, 75, 70), [3, 1])

    def test_common_points(self):
        self.assertEqual(self.may(0, 1, 60, 60), [3, 0])
        self.assertEqual(self.may(0, 1, 50, 10, 50, 90), [3, 0])
        self.assertEqual(self.may(0, 1, 20, 60, 40, 60), [3, 0])
        self.assertEqual(self.may(0, 1, 86, 46), [3, 1])

    def test_lesser_number_first(self):
        self.assertEqual(self.may(0, 1, 10, 45, 95, 45), [3, 0])
        self.assertEqual(self.may(0, 11, 70, 45), [3, 0])
        self.assertEqual(self.may(0, 11, 70, 70), [0, 0])
        self.assertEqual(self.may(0, 9, 73, 45), [3, 1])

    def test_outline_before_cuts(self):
        self.assertEqual(self.may(0, 1, 10, 45, 100, 45), [2, 1])
        self.assertEqual(self.may(0, 1, 10, 45, 101, 45), [1, 0])

    def test_polygon_round_a_cut_that_leaves_it_out(self):
        around = (30, 30, 70, 30, 70, 35, 35, 35, 35, 70, 30, 70)
        self.assertEqual(self.may(0, 5, *around), [0, 0])
        self.assertEqual(self.may(0, 6, *around), [3, 0])


class Keeps(unittest.TestCase):
    def test_kinds(self):
        for kept, name in enumerate(("track", "via", "part", "all")):
            for kind in range(3):
                text = STACK + f"keep {name} 1 3 0 50 50\n"
                expected = [4, 0] if kept in (kind, 3) else [0, 0]
                self.assertEqual(last(text, may(0, kind, 1, 1, 0, 1, 50, 50)), expected)

    def test_layers(self):
        spans = [(lo, hi) for lo in range(1, 4) for hi in range(lo, 4)]
        for kept_lo, kept_hi in spans:
            text = STACK + f"keep all {kept_lo} {kept_hi} 0 50 50\n"
            for lo, hi in spans:
                common = set(range(kept_lo, kept_hi + 1)) & set(range(lo, hi + 1))
                self.assertEqual(last(text, may(0, 0, lo, hi, 0, 1, 50, 50)), [4, 0] if common else [0, 0])

    def test_both_radii_and_the_margin(self):
        text = STACK + "keep all 1 1 5 50 50\n"
        self.assertEqual(last(text, may(0, 0, 1, 1, 3, 2, 60, 50)), [0, 0])
        self.assertEqual(last(text, may(0, 0, 1, 1, 3, 3, 60, 50)), [4, 0])
        self.assertEqual(last(text, may(0, 0, 1, 1, 4, 2, 60, 50)), [4, 0])
        self.assertEqual(last(STACK + "keep all 1 1 6 50 50\n", may(0, 0, 1, 1, 3, 2, 60, 50)), [4, 0])
        self.assertEqual(last(text, may(0, 0, 1, 1, 3, 2, 56, 58)), [0, 0])
        self.assertEqual(last(text, may(0, 0, 1, 1, 3, 2, 56, 57)), [4, 0])

    def test_skeletons_of_all_sorts(self):
        kept = ("50 50", "45 50 50 50", "40 40 50 50 40 60")
        things = ((60, 50), (60, 50, 70, 40), (60, 50, 70, 40, 70, 60))
        for told in kept:
            for thing in things:
                text = STACK + f"keep all 1 1 2 {told}\n"
                self.assertEqual(last(text, may(0, 0, 1, 1, 3, 5, *thing)), [0, 0])
                self.assertEqual(last(text, may(0, 0, 1, 1, 3, 6, *thing)), [4, 0])

    def test_bars_that_cross_or_touch(self):
        text = STACK + "keep all 1 1 0 40 50 60 50\n"
        for thing in ((50, 40, 50, 60), (50, 50, 50, 60), (60, 50, 70, 50), (30, 50, 70, 50), (45, 50, 55, 50),
                      (40, 50, 60, 50), (41, 50), (40, 40, 60, 60)):
            self.assertEqual(last(text, may(0, 0, 1, 1, 0, 1, *thing)), [4, 0])
        for thing in ((61, 50, 70, 50), (50, 51, 50, 60), (20, 50, 39, 50), (40, 51, 60, 51)):
            self.assertEqual(last(text, may(0, 0, 1, 1, 0, 1, *thing)), [0, 0])
            self.assertEqual(last(text, may(0, 0, 1, 1, 0, 2, *thing)), [4, 0])

    def test_bars_on_one_line(self):
        for thing, near in (((50, 61, 50, 70), 1), ((50, 30, 50, 39), 1), ((50, 20, 50, 36), 4), ((50, 67), 7)):
            text = STACK + "keep all 1 1 0 50 40 50 60\n"
            self.assertEqual(last(text, may(0, 0, 1, 1, 0, near, *thing)), [0, 0])
            self.assertEqual(last(text, may(0, 0, 1, 1, 0, near + 1, *thing)), [4, 0])
        for thing, near in (((51, 51, 60, 60), 1), ((30, 30, 39, 39), 1), ((30, 30, 37, 36), 5), ((53, 54), 5)):
            text = STACK + "keep all 1 1 0 40 40 50 50\n"
            self.assertEqual(last(text, may(0, 0, 1, 1, 0, near, *thing)), [0, 0])
            self.assertEqual(last(text, may(0, 0, 1, 1, 0, near + 1, *thing)), [4, 0])

    def test_end_of_one_near_the_middle_of_the_other(self):
        bars = ((50, 40, 50, 60), (40, 35, 60, 35), (40, 65, 60, 65), (45, 30, 45, 70), (55, 30, 55, 70))
        for thing in bars[1:]:
            for kept, told in ((bars[0], thing), (thing, bars[0])):
                text = STACK + "keep all 1 1 0 " + " ".join(map(str, kept)) + "\n"
                self.assertEqual(last(text, may(0, 0, 1, 1, 0, 5, *told)), [0, 0])
                self.assertEqual(last(text, may(0, 0, 1, 1, 0, 6, *told)), [4, 0])

    def test_within_a_triangle(self):
        triangle = (5, 5, 95, 5, 50, 95)
        for thing in ((50, 40), (45, 40, 55, 40), (45, 40, 55, 40, 50, 45)):
            for kept, told in ((triangle, thing), (thing, triangle)):
                text = STACK + "keep all 1 1 0 " + " ".join(map(str, kept)) + "\n"
                self.assertEqual(last(text, may(0, 0, 1, 1, 0, 1, *told)), [4, 0])

    def test_within_one_another(self):
        inner = "keep all 1 1 0 45 45 55 45 50 55\n"
        outer = "keep all 1 1 0 30 30 70 30 70 70 30 70\n"
        self.assertEqual(last(STACK + inner, may(0, 0, 1, 1, 0, 1, 30, 30, 70, 30, 70, 70, 30, 70)), [4, 0])
        for thing in ((50, 50), (45, 50, 55, 50), (45, 45, 55, 45, 50, 55)):
            self.assertEqual(last(STACK + outer, may(0, 0, 1, 1, 0, 1, *thing)), [4, 0])

    def test_lesser_number_first(self):
        text = STACK + "keep via 1 3 0 50 50\nkeep all 3 3 0 50 50\nkeep all 1 1 9 20 20\nkeep track 1 2 0 50 50\n"
        self.assertEqual(last(text, may(0, 0, 1, 3, 0, 1, 50, 50)), [4, 1])
        self.assertEqual(last(text, may(0, 0, 1, 2, 0, 1, 50, 50)), [4, 3])
        self.assertEqual(last(text, may(0, 1, 1, 2, 0, 1, 50, 50)), [4, 0])
        self.assertEqual(last(text, may(0, 2, 1, 2, 0, 1, 50, 50)), [0, 0])
        self.assertEqual(last(text, may(0, 2, 1, 2, 0, 1, 25, 25)), [4, 2])

    def test_cuts_before_keeps(self):
        text = STACK + "keep all 1 3 0 50 50\ncut 40 40 60 40 60 60\n"
        self.assertEqual(last(text, may(0, 0, 1, 1, 0, 1, 50, 50)), [3, 0])

    def test_keep_outs_outside_the_outline(self):
        text = STACK + "keep all 1 1 1000000000 1000000000 50\n"
        self.assertEqual(last(text, may(0, 0, 1, 1, 0, 1, 2, 50)), [4, 0])
        self.assertEqual(last(text, may(0, 0, 2, 2, 0, 1, 2, 50)), [0, 0])

    def test_after_mirror(self):
        text = STACK + "keep all 1 1 0 50 50\n"
        calls = (mirror(0), may(0, 0, 1, 1, 0, 1, -50, 50), may(0, 0, 3, 3, 0, 1, -50, 50))
        self.assertEqual(ask(load(0, text), *calls)[2:], [[0, 0], [4, 0]])


class Points(unittest.TestCase):
    def test_order_and_direction_do_not_matter(self):
        corners = [(50, 40), (60, 60), (50, 50), (45, 55)]
        text = STACK + "keep all 1 1 0 56 61\n"
        for first in range(4):
            told = corners[first:] + corners[:first]
            for points in (told, told[::-1]):
                self.assertEqual(last(text, may(0, 0, 1, 1, 0, 3, *flat(points))), [0, 0])
                self.assertEqual(last(text, may(0, 0, 1, 1, 0, 4, *flat(points))), [4, 0])

    def test_32_points(self):
        text = "copper 1\noutline -2000 -2000 2000 -2000 2000 2000 -2000 2000\n"
        self.assertEqual(last(text, may(0, 0, 1, 1, 0, 1, *flat(comb(32)))), [0, 0])
        self.assertEqual(last(text, may(0, 0, 1, 1, 0, 1, *flat(comb(33)))), [-7])

    def test_nothing_changes(self):
        answers = ask(load(0, FULL), printing(0), may(0, 0, 1, 1, 0, 1, 50, 50), printing(0))
        self.assertEqual(answers[3], answers[1])


class Refusals(unittest.TestCase):
    def assert_refused(self, refusal, *arguments):
        self.assertEqual(last(STACK, may(0, *arguments)), [refusal], arguments)

    def test_layers(self):
        for lo, hi in ((0, 1), (-1, 1), (2, 1), (1, 4), (4, 4), (-HUGE, HUGE), (HUGE, HUGE)):
            self.assert_refused(-3, 0, lo, hi, 0, 1, 50, 50)

    def test_kind(self):
        for kind in (-1, 3, 4, HUGE, -HUGE):
            self.assert_refused(-4, kind, 1, 1, 0, 1, 50, 50)

    def test_radius(self):
        self.assertEqual(last(STACK, may(0, 0, 1, 1, LIMIT, 1, 50, 50)), [2, 0])
        for radius in (-1, LIMIT + 1, HUGE, -HUGE):
            self.assert_refused(-5, 0, 1, 1, radius, 1, 50, 50)

    def test_margin(self):
        self.assertEqual(last(STACK, may(0, 0, 1, 1, 0, LIMIT, 50, 50)), [2, 0])
        for margin in (0, -1, LIMIT + 1, HUGE, -HUGE):
            self.assert_refused(-6, 0, 1, 1, 0, margin, 50, 50)

    def test_points(self):
        self.assert_refused(-7, 0, 1, 1, 0, 1)
        self.assert_refused(-7, 0, 1, 1, 0, 1, 50)
        self.assert_refused(-7, 0, 1, 1, 0, 1, 50, 50, 60)
        self.assert_refused(-7, 0, 1, 1, 0, 1, *range(65))
        self.assert_refused(-7, 0, 1, 1, 0, 1, *range(66))
        self.assert_refused(-7, 0, 1, 1, 0, 1, *range(100))

    def test_range(self):
        self.assertEqual(last(STACK, may(0, 0, 1, 1, 0, 1, LIMIT, -LIMIT)), [1, 0])
        self.assertEqual(last(STACK, may(0, 0, 1, 1, 0, 1, -LIMIT, LIMIT)), [1, 0])
        for x, y in ((LIMIT + 1, 0), (-LIMIT - 1, 0), (0, LIMIT + 1), (0, -LIMIT - 1), (HUGE, HUGE)):
            self.assert_refused(-8, 0, 1, 1, 0, 1, x, y)
            self.assert_refused(-8, 0, 1, 1, 0, 1, 50, 50, x, y)

    def test_no_skeleton(self):
        self.assert_refused(-9, 0, 1, 1, 0, 1, 50, 50, 50, 50)
        self.assert_refused(-9, 0, 1, 1, 0, 1, 50, 50, 60, 60, 70, 70)
        self.assert_refused(-9, 0, 1, 1, 0, 1, 50, 50, 60, 60, 60, 50, 50, 60)
        self.assert_refused(-9, 0, 1, 1, 0, 1, 500, 500, 500, 500)
        self.assert_refused(-9, 0, 1, 1, 0, 1, *[7] * 64)

    def test_nearest_to_0_of_two(self):
        right = {"lo": (1, 1), "kind": 0, "r": 0, "m": 1, "points": (50, 50)}
        wrong = [(-3, {"lo": (2, 1)}), (-4, {"kind": 3}), (-5, {"r": -1}), (-6, {"m": 0}), (-7, {"points": (50,)}),
                 (-8, {"points": (LIMIT + 1, 50, LIMIT + 1, 50)}), (-9, {"points": (50, 50, 50, 50)})]
        for i, (first, change) in enumerate(wrong):
            for second, other in wrong[i + 1:]:
                told = {**right, **other, **change}
                self.assert_refused(first, told["kind"], *told["lo"], told["r"], told["m"], *told["points"])

    def test_nearest_to_0_among_points(self):
        self.assert_refused(-7, 0, 1, 1, 0, 1, HUGE)
        self.assert_refused(-7, 0, 1, 1, 0, 1, *[HUGE] * 66)
        self.assert_refused(-8, 0, 1, 1, 0, 1, HUGE, HUGE, HUGE, HUGE)

    def test_all_at_once(self):
        self.assertEqual(ask(may(7, 9, 9, 9, -1, 0)), [[-1]])
        self.assertEqual(ask(may(1, 9, 9, 9, -1, 0)), [[-2]])
        self.assert_refused(-3, 9, 9, 9, -1, 0)


if __name__ == "__main__":
    unittest.main()
