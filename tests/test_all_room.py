"""The calls all and room."""

import unittest

from tests.helper import (FULL, LIMIT, SQUARE, ask, comb, flat, keep, last, load, may, mirror, reasons, room, square, turn,
                          unkeep)

# Corners around all that is on the board FULL, 5 away from its outline, and corners around the outline itself.
WIDE = flat(square(5, 5, 90))
WIDER = flat(square(-5, -5, 110))


class All(unittest.TestCase):
    def all(self, kind, lo, hi, r, m, *numbers):
        return last(FULL, reasons(0, kind, lo, hi, r, m, *numbers))

    def test_no_reason(self):
        self.assertEqual(self.all(0, 1, 1, 0, 1, 50, 20), [0])
        self.assertEqual(self.all(2, 1, 3, 2, 3, 50, 20, 40, 30), [0])

    def test_point_outside_is_told_once(self):
        self.assertEqual(self.all(0, 1, 1, 0, 1, 200, 200), [1, 1, 0])
        self.assertEqual(self.all(0, 1, 1, 0, 1, 200, 200, 300, 300), [1, 1, 0])
        self.assertEqual(self.all(0, 1, 1, 0, 1, 200, 200, 300, 300, 200, 300), [1, 1, 0])

    def test_sides_of_the_outline(self):
        self.assertEqual(self.all(0, 1, 1, 0, 5, 50, 5), [0])
        self.assertEqual(self.all(0, 1, 1, 0, 6, 50, 5), [1, 2, 0])
        self.assertEqual(self.all(0, 1, 1, 2, 4, 5, 5), [2, 2, 0, 2, 3])
        self.assertEqual(self.all(0, 1, 1, 0, 1, 0, 100), [2, 2, 2, 2, 3])

    def test_cuts(self):
        self.assertEqual(self.all(0, 1, 1, 0, 5, 25, 15), [0])
        self.assertEqual(self.all(0, 1, 1, 0, 6, 25, 15), [1, 3, 0])
        self.assertEqual(self.all(0, 1, 1, 0, 1, 78, 72), [1, 3, 1])
        self.assertEqual(self.all(2, 1, 1, 0, 1, 15, 15, 79, 79), [2, 3, 0, 3, 1])

    def test_keeps(self):
        self.assertEqual(self.all(0, 1, 1, 0, 1, 50, 50), [1, 4, 0])
        self.assertEqual(self.all(1, 1, 1, 0, 1, 50, 50), [0])
        self.assertEqual(self.all(0, 1, 2, 0, 1, 45, 65, 50, 50), [1, 4, 0])
        self.assertEqual(self.all(0, 1, 2, 0, 1, 35, 60, 50, 50), [2, 4, 0, 4, 1])
        self.assertEqual(self.all(1, 1, 3, 0, 1, 35, 60, 65, 22), [2, 4, 1, 4, 2])

    def test_several_of_each_sort_in_their_order(self):
        self.assertEqual(self.all(0, 1, 1, 0, 5, *WIDE), [3, 3, 0, 3, 1, 4, 0])
        self.assertEqual(self.all(0, 1, 3, 0, 5, *WIDE), [4, 3, 0, 3, 1, 4, 0, 4, 1])
        self.assertEqual(self.all(1, 1, 3, 0, 5, *WIDE), [4, 3, 0, 3, 1, 4, 1, 4, 2])
        self.assertEqual(self.all(2, 1, 3, 0, 5, *WIDE), [3, 3, 0, 3, 1, 4, 1])
        self.assertEqual(self.all(0, 1, 3, 0, 6, *WIDE), [8, 2, 0, 2, 1, 2, 2, 2, 3, 3, 0, 3, 1, 4, 0, 4, 1])

    def test_all_sorts(self):
        every = [9, 1, 0, 2, 0, 2, 1, 2, 2, 2, 3, 3, 0, 3, 1, 4, 0, 4, 1]
        self.assertEqual(self.all(0, 1, 3, 0, 1, *WIDER), every)
        self.assertEqual(self.all(0, 1, 3, 0, LIMIT, 500, 500), every)
        self.assertEqual(self.all(0, 1, 3, LIMIT, 1, 500, 500), every)

    def test_corners_told_clockwise(self):
        told = flat(square(5, 5, 90)[::-1])
        self.assertEqual(self.all(0, 1, 3, 0, 6, *told), self.all(0, 1, 3, 0, 6, *WIDE))

    def test_most_reasons(self):
        cuts = "".join(f"cut {10 * i + 5} 5 {10 * i + 8} 5 {10 * i + 8} 8\n" for i in range(8))
        outline = " ".join(str(number) for number in flat(comb(32, -2000, -2000)))
        outline = f"copper 1\noutline {outline}\n"
        answer = last(outline + "keep all 1 1 0 7 7\n" * 32, reasons(0, 0, 1, 1, 0, LIMIT, 10 ** 6, 0))
        self.assertEqual(answer, [65, 1, 0] + flat([(2, e) for e in range(32)]) + flat([(4, i) for i in range(32)]))
        answer = last(SQUARE + cuts, reasons(0, 0, 1, 1, 0, LIMIT, 50, 50))
        self.assertEqual(answer, [12, 2, 0, 2, 1, 2, 2, 2, 3] + flat([(3, i) for i in range(8)]))

    def test_may_tells_the_first_of_them(self):
        for thing in ((50, 50), (200, 200), (5, 5, 50, 50), (35, 60, 40, 70), (75, 71), WIDE, WIDER):
            for kind in range(3):
                for m in (1, 5, 6, 40):
                    answers = ask(load(0, FULL), reasons(0, kind, 1, 3, 0, m, *thing), may(0, kind, 1, 3, 0, m, *thing))
                    self.assertEqual(answers[2], (answers[1][1:] + [0, 0])[:2])

    def test_after_changes(self):
        answers = ask(load(0, FULL), keep(0, 3, 1, 1, 0, 50, 52), unkeep(0, 1), reasons(0, 0, 1, 1, 0, 1, 50, 50),
                      reasons(0, 0, 1, 1, 0, 3, 50, 50), turn(0, 1), reasons(0, 0, 1, 1, 0, 3, -50, 50))
        self.assertEqual(answers[3:], [[1, 4, 0], [2, 4, 0, 4, 2], [0], [2, 4, 0, 4, 2]])


class Room(unittest.TestCase):
    def room(self, text, r, *numbers, kind=0, lo=1, hi=1):
        """What room answers; what it says of may is held against may."""
        answer = last(text, room(0, kind, lo, hi, r, *numbers))
        margin = answer[0]
        if margin > 0:
            self.assertEqual(last(text, may(0, kind, lo, hi, r, margin, *numbers)), [0, 0])
        if margin < LIMIT:
            self.assertEqual(last(text, may(0, kind, lo, hi, r, margin + 1, *numbers)), answer[1:])
        return answer

    def test_none(self):
        self.assertEqual(self.room(SQUARE, 0, 50, 0), [0, 2, 0])
        self.assertEqual(self.room(SQUARE, 50, 50, 50), [0, 2, 0])
        self.assertEqual(self.room(SQUARE, LIMIT, 50, 50), [0, 2, 0])
        self.assertEqual(self.room(FULL, 0, 15, 15), [0, 3, 0])
        self.assertEqual(self.room(FULL, 0, 80, 75), [0, 3, 1])
        self.assertEqual(self.room(FULL, 0, 50, 50), [0, 4, 0])
        self.assertEqual(self.room(FULL, 0, 35, 60, lo=2, hi=2), [0, 4, 1])

    def test_outside(self):
        self.assertEqual(self.room(SQUARE, 0, 150, 50), [0, 1, 0])
        self.assertEqual(self.room(SQUARE, 0, 50, 50, 150, 50), [0, 1, 0])
        self.assertEqual(self.room(SQUARE, 0, LIMIT, LIMIT), [0, 1, 0])

    def test_one(self):
        self.assertEqual(self.room(SQUARE, 0, 50, 1), [1, 2, 0])
        self.assertEqual(self.room(SQUARE, 49, 50, 50), [1, 2, 0])
        self.assertEqual(self.room(FULL, 0, 9, 15), [1, 3, 0])
        self.assertEqual(self.room(FULL, 0, 50, 54), [1, 4, 0])

    def test_something_between(self):
        self.assertEqual(self.room(SQUARE, 0, 50, 50), [50, 2, 0])
        self.assertEqual(self.room(SQUARE, 10, 50, 50), [40, 2, 0])
        self.assertEqual(self.room(SQUARE, 0, 90, 50), [10, 2, 1])
        self.assertEqual(self.room(SQUARE, 3, 40, 50, 60, 50), [37, 2, 1])
        self.assertEqual(self.room(SQUARE, 0, 40, 41, 60, 41, 50, 60), [40, 2, 1])
        self.assertEqual(self.room(FULL, 2, 30, 15), [8, 3, 0])

    def test_distances_that_are_no_whole_numbers(self):
        text = SQUARE + "keep all 1 1 0 50 50\n"
        for x, y, margin in ((53, 54, 5), (53, 53, 4), (52, 54, 4), (51, 51, 1), (50, 51, 1), (55, 55, 7)):
            self.assertEqual(self.room(text, 0, x, y), [margin, 4, 0])
        # The distance from the slanting side is (4y - 3x) / 5.
        text = "copper 1\noutline 0 0 400 300 0 600\n"
        for x, y, margin in ((100, 100, 20), (101, 100, 19), (98, 100, 21), (97, 100, 21), (96, 100, 22)):
            self.assertEqual(self.room(text, 0, x, y), [margin, 2, 0])

    def test_both_radii(self):
        text = SQUARE + "keep all 1 1 2 50 50\n"
        for r, margin in ((0, 3), (1, 2), (2, 1), (3, 0), (4, 0)):
            self.assertEqual(self.room(text, r, 53, 54), [margin, 4, 0])

    def test_greatest(self):
        text = "copper 1\noutline " + " ".join(str(number) for number in flat(square(-LIMIT, -LIMIT, 2 * LIMIT))) + "\n"
        self.assertEqual(self.room(text, 0, 0, 0), [LIMIT, 0, 0])
        self.assertEqual(self.room(text, 1, 0, 0), [LIMIT - 1, 2, 0])
        self.assertEqual(self.room(text, 0, 0, 1), [LIMIT - 1, 2, 2])
        self.assertEqual(self.room(text, LIMIT - 1, 0, 0), [1, 2, 0])
        self.assertEqual(self.room(text, LIMIT, 0, 0), [0, 2, 0])
        self.assertEqual(self.room(text + f"keep via 1 1 {LIMIT} 0 0\n", 0, 0, 0), [LIMIT, 0, 0])
        self.assertEqual(self.room(text + f"keep all 1 1 {LIMIT} {LIMIT} {LIMIT}\n", 0, 0, 0), [414213562, 4, 0])

    def test_first_reason_in_order_not_the_nearest_thing(self):
        text = SQUARE + "keep all 1 1 0 50 20\nkeep all 1 1 0 50 19\n"
        self.assertEqual(self.room(SQUARE + "keep all 1 1 0 50 20\n", 0, 50, 10), [10, 2, 0])
        self.assertEqual(self.room(text, 0, 50, 10), [9, 4, 1])
        self.assertEqual(self.room(text + "keep all 1 1 0 41 10\n", 0, 50, 10), [9, 4, 1])
        self.assertEqual(self.room(SQUARE + "keep all 1 1 0 60 10\ncut 30 5 40 5 40 20\n", 0, 50, 10), [10, 2, 0])
        self.assertEqual(self.room(SQUARE + "keep all 1 1 0 60 50\ncut 30 45 40 45 40 60\n", 0, 50, 50), [10, 3, 0])

    def test_only_keep_outs_that_stop_the_thing(self):
        self.assertEqual(self.room(FULL, 0, 50, 56), [3, 4, 0])
        self.assertEqual(self.room(FULL, 0, 50, 56, kind=1), [24, 3, 1])
        self.assertEqual(self.room(FULL, 0, 50, 56, lo=3, hi=3), [10, 4, 1])

    def test_nearer_ones_may_come_in_any_order(self):
        keeps = [f"keep all 1 1 0 {50 + d} 50\n" for d in (40, 30, 20, 7, 13, 9, 35)]
        self.assertEqual(self.room(SQUARE + "".join(keeps), 0, 50, 50), [7, 4, 3])
        self.assertEqual(self.room(SQUARE + "".join(keeps[::-1]), 0, 50, 50), [7, 4, 3])
        self.assertEqual(self.room(SQUARE + "".join(keeps) + "keep all 1 1 0 50 50\n", 0, 50, 50), [0, 4, 7])
        self.assertEqual(self.room(SQUARE + "keep all 1 1 0 50 50\n" + "".join(keeps), 0, 50, 50), [0, 4, 0])

    def test_polygons_within_one_another(self):
        self.assertEqual(self.room(FULL, 0, *WIDE), [0, 3, 0])
        self.assertEqual(self.room(SQUARE, 0, *WIDE), [5, 2, 0])
        self.assertEqual(self.room(SQUARE + "keep all 1 1 0 50 50\n", 0, *WIDE), [0, 4, 0])

    def test_after_changes(self):
        answers = ask(load(0, SQUARE), keep(0, 3, 1, 1, 0, 50, 60), room(0, 0, 1, 1, 0, 50, 50), mirror(0),
                      room(0, 0, 1, 1, 0, -50, 50), unkeep(0, 0), room(0, 0, 1, 1, 0, -50, 50))
        self.assertEqual(answers[2::2], [[10, 4, 0], [10, 4, 0], [50, 2, 0]])


if __name__ == "__main__":
    unittest.main()
