"""The calls raster, reach and way."""

import unittest

from tests.helper import (FULL, LIMIT, SQUARE, ask, cut, flat, keep, last, load, may, mirror, raster, reach, square, uncut,
                          unkeep, way, words)

FULL_ROW = 2 ** 24 - 1
WIDE = "copper 1\noutline 0 0 250 0 250 250 0 250\n"
GREATEST = f"copper 1\noutline {words(square(-LIMIT, -LIMIT, 2 * LIMIT))}\n"
DENTED = "copper 1\noutline 0 0 30 0 30 30 15 5 0 30\n"

# Kind, layers, radius and margin: as little as there is to be asked.
THIN = (0, 1, 1, 0, 1)

# Between each two rows of 24 cells, a pitch of 10 apart, a wall that is open at the right, at the left, and so on.
WALLS = "".join(
    f"keep all 1 1 0 {0 if j % 2 == 0 else 16} {15 + 10 * j} {234 if j % 2 == 0 else 250} {15 + 10 * j}\n" for j in range(23)
)


def cells(answer, columns):
    """The set of cells that the answer tells."""
    assert answer[0] == len(answer) - 1
    assert all(0 <= row < 2 ** columns for row in answer[1:]), answer
    return {(i, j) for j, row in enumerate(answer[1:]) for i in range(columns) if row >> i & 1}


class Raster(unittest.TestCase):
    def test_free_cells_by_rows(self):
        self.assertEqual(last(SQUARE, raster(0, *THIN, 0, 0, 10, 11, 11)), [11, 0] + [1022] * 9 + [0])
        self.assertEqual(last(SQUARE, raster(0, *THIN, 0, 0, 10, 11, 2)), [2, 0, 1022])
        self.assertEqual(last(SQUARE, raster(0, *THIN, 0, 0, 10, 2, 11)), [11, 0] + [2] * 9 + [0])

    def test_which_bit_and_which_row(self):
        text = SQUARE + "keep all 1 1 0 20 10\nkeep all 1 1 0 40 30\n"
        self.assertEqual(last(text, raster(0, *THIN, 10, 10, 10, 4, 3)), [3, 13, 15, 7])
        self.assertEqual(last(text, raster(0, *THIN, 20, 10, 10, 1, 3)), [3, 0, 1, 1])
        self.assertEqual(last(text, raster(0, *THIN, 20, 10, 10, 3, 1)), [1, 6])

    def test_radius_and_margin(self):
        for r, m in ((0, 10), (9, 1), (4, 6)):
            self.assertEqual(last(SQUARE, raster(0, 0, 1, 1, r, m, 0, 0, 10, 11, 11)), [11, 0] + [1022] * 9 + [0])
        for r, m in ((0, 11), (10, 1), (5, 6), (0, 20)):
            answer = last(SQUARE, raster(0, 0, 1, 1, r, m, 0, 0, 10, 11, 11))
            self.assertEqual(answer, [11, 0, 0] + [508] * 7 + [0, 0])

    def test_radius_of_a_keep_out(self):
        for r, row in ((0, 27), (9, 27), (10, 17), (19, 17), (20, 0)):
            text = f"copper 1\noutline 0 0 900 0 900 900 0 900\nkeep all 1 1 {r} 120 100\n"
            self.assertEqual(last(text, raster(0, *THIN, 100, 100, 10, 5, 1)), [1, row])

    def test_kind_and_layers(self):
        for kind, lo, hi, free in ((0, 1, 1, 0), (0, 2, 3, 0), (0, 3, 3, 1), (1, 1, 3, 1), (2, 1, 1, 1)):
            self.assertEqual(last(FULL, raster(0, kind, lo, hi, 0, 1, 50, 50, 1, 1, 1)), [1, free])
        for kind, lo, hi, free in ((0, 1, 1, 1), (0, 2, 2, 0), (1, 1, 3, 0), (2, 3, 3, 0)):
            self.assertEqual(last(FULL, raster(0, kind, lo, hi, 0, 1, 35, 60, 1, 1, 1)), [1, free])

    def test_within_cuts_and_keep_outs(self):
        text = SQUARE + "cut 10 10 50 10 50 50 10 50\nkeep all 1 1 0 60 60 90 60 90 90 60 90\n"
        answer = last(text, raster(0, *THIN, 0, 0, 5, 21, 21))
        expected = {(i, j) for i in range(1, 20) for j in range(1, 20)}
        expected -= {(i, j) for i in range(2, 11) for j in range(2, 11)}
        expected -= {(i, j) for i in range(12, 19) for j in range(12, 19)}
        self.assertEqual(cells(answer, 21), expected)

    def test_as_may_tells(self):
        free = set()
        calls = [may(0, 0, 1, 3, 1, 2, 4 + 4 * i, 3 + 4 * j) for i in range(14) for j in range(14)]
        for i in range(14):
            answers = ask(load(0, FULL), *calls[14 * i:14 * i + 14])[1:]
            free |= {(i, j) for j, answer in enumerate(answers) if answer == [0, 0]}
        self.assertEqual(cells(last(FULL, raster(0, 0, 1, 3, 1, 2, 4, 3, 4, 14, 14)), 14), free)
        self.assertTrue(80 < len(free) < 180)

    def test_columns_and_rows(self):
        self.assertEqual(last(SQUARE, raster(0, *THIN, 50, 50, 1, 1, 1)), [1, 1])
        self.assertEqual(last(WIDE, raster(0, *THIN, 10, 10, 10, 24, 24)), [24] + [FULL_ROW] * 24)
        self.assertEqual(last(WIDE, raster(0, *THIN, 10, 10, 10, 1, 24)), [24] + [1] * 24)
        self.assertEqual(last(WIDE, raster(0, *THIN, 10, 10, 10, 24, 1)), [1, FULL_ROW])
        for columns, rows in ((0, 1), (1, 0), (25, 1), (1, 25), (0, 0), (25, 25), (-1, 5), (5, -1)):
            self.assertEqual(last(WIDE, raster(0, *THIN, 10, 10, 1, columns, rows)), [-7])

    def test_pitch(self):
        self.assertEqual(last(SQUARE, raster(0, *THIN, 99, 99, 1, 3, 3)), [3, 1, 0, 0])
        self.assertEqual(last(GREATEST, raster(0, *THIN, -LIMIT, -LIMIT, LIMIT, 3, 3)), [3, 0, 2, 0])
        self.assertEqual(last(GREATEST, raster(0, 0, 1, 1, 0, LIMIT, -LIMIT, -LIMIT, LIMIT, 3, 3)), [3, 0, 2, 0])
        self.assertEqual(last(GREATEST, raster(0, 0, 1, 1, 1, LIMIT, -LIMIT, -LIMIT, LIMIT, 3, 3)), [3, 0, 0, 0])
        self.assertEqual(last(SQUARE, raster(0, *THIN, 50, 50, LIMIT, 1, 1)), [1, 1])
        for pitch in (0, -1, LIMIT + 1, 10 ** 18, -10 ** 18):
            self.assertEqual(last(SQUARE, raster(0, *THIN, 50, 50, pitch, 1, 1)), [-8])

    def test_points_of_cells(self):
        for x, y in ((LIMIT - 23, 0), (-LIMIT, 0), (0, LIMIT - 23), (0, -LIMIT)):
            self.assertEqual(last(SQUARE, raster(0, *THIN, x, y, 1, 24, 24)), [24] + cells_of_square(x, y))
        for x, y in ((LIMIT - 22, 0), (-LIMIT - 1, 0), (0, LIMIT - 22), (0, -LIMIT - 1)):
            self.assertEqual(last(SQUARE, raster(0, *THIN, x, y, 1, 24, 24)), [-8])
        self.assertEqual(last(SQUARE, raster(0, *THIN, LIMIT, LIMIT, LIMIT, 1, 1)), [1, 0])
        self.assertEqual(last(SQUARE, raster(0, *THIN, LIMIT + 1, 0, 1, 1, 1)), [-8])
        self.assertEqual(last(SQUARE, raster(0, *THIN, 0, LIMIT + 1, 1, 1, 1)), [-8])
        self.assertEqual(last(SQUARE, raster(0, *THIN, 1, 0, LIMIT, 2, 1)), [-8])
        self.assertEqual(last(SQUARE, raster(0, *THIN, 0, 1, LIMIT, 1, 2)), [-8])
        self.assertEqual(last(SQUARE, raster(0, *THIN, 0, 0, LIMIT, 2, 2)), [2, 0, 0])
        self.assertEqual(last(SQUARE, raster(0, *THIN, -LIMIT, 50, 10 ** 8, 24, 1)), [-8])


def cells_of_square(x, y):
    """The free cells of a raster from there on with pitch 1, 24 columns and rows, on the board SQUARE; by rows."""
    return [sum(2 ** i for i in range(24) if 1 <= x + i <= 99 and 1 <= y + j <= 99) for j in range(24)]


class Reach(unittest.TestCase):
    def test_all_of_them(self):
        for i, j in ((0, 0), (23, 0), (0, 23), (23, 23), (7, 11)):
            self.assertEqual(last(WIDE, reach(0, *THIN, 10, 10, 10, 24, 24, i, j)), [24] + [FULL_ROW] * 24)

    def test_one_cell(self):
        self.assertEqual(last(SQUARE, reach(0, *THIN, 50, 50, 1, 1, 1, 0, 0)), [1, 1])
        self.assertEqual(last(SQUARE, reach(0, *THIN, 50, 0, 1, 1, 1, 0, 0)), [1, 0])

    def test_one_row_and_one_column(self):
        text = WIDE + "keep all 1 1 0 55 100\nkeep all 1 1 0 100 85\n"
        self.assertEqual(last(text, reach(0, *THIN, 10, 100, 10, 24, 1, 3, 0)), [1, 31])
        self.assertEqual(last(text, reach(0, *THIN, 10, 100, 10, 24, 1, 5, 0)), [1, FULL_ROW - 31])
        self.assertEqual(last(text, reach(0, *THIN, 100, 10, 10, 1, 24, 0, 0)), [24] + [1] * 8 + [0] * 16)
        self.assertEqual(last(text, reach(0, *THIN, 100, 10, 10, 1, 24, 0, 8)), [24] + [0] * 8 + [1] * 16)

    def test_first_cell_that_is_not_free(self):
        self.assertEqual(last(SQUARE, reach(0, *THIN, 0, 0, 10, 3, 4, 0, 2)), [4, 0, 0, 0, 0])
        self.assertEqual(last(SQUARE, reach(0, *THIN, 0, 0, 10, 3, 4, 1, 2)), [4, 0, 6, 6, 6])
        self.assertEqual(last(SQUARE, reach(0, *THIN, 200, 200, 10, 2, 2, 1, 1)), [2, 0, 0])

    def test_free_cells_that_no_step_joins(self):
        walls = (SQUARE + "keep all 1 1 0 55 0 55 100\n", SQUARE + "cut 54 1 56 1 56 99 54 99\n",
                 SQUARE + "keep track 1 1 2 55 20 55 90\n")
        for text in walls:
            self.assertEqual(last(text, raster(0, *THIN, 50, 50, 10, 2, 2)), [2, 3, 3])
            self.assertEqual(last(text, reach(0, *THIN, 50, 50, 10, 2, 2, 0, 0)), [2, 1, 1])
            self.assertEqual(last(text, reach(0, *THIN, 50, 50, 10, 2, 2, 1, 1)), [2, 2, 2])
        self.assertEqual(last(walls[2], reach(0, 1, 1, 1, 0, 1, 50, 50, 10, 2, 2, 0, 0)), [2, 3, 3])
        self.assertEqual(last(DENTED, raster(0, *THIN, 3, 20, 24, 2, 1)), [1, 3])
        self.assertEqual(last(DENTED, reach(0, *THIN, 3, 20, 24, 2, 1, 0, 0)), [1, 1])
        self.assertEqual(last(DENTED, reach(0, *THIN, 3, 20, 24, 2, 1, 1, 0)), [1, 2])
        self.assertEqual(last(DENTED, reach(0, *THIN, 3, 3, 24, 2, 1, 1, 0)), [1, 3])

    def test_step_that_keeps_just_far_enough(self):
        # From the bar between (50, 50) and (60, 50) the spot is 4 away, from both cells more than that.
        text = SQUARE + "keep all 1 1 0 55 54\n"
        self.assertEqual(last(text, reach(0, 0, 1, 1, 1, 3, 50, 50, 10, 2, 1, 0, 0)), [1, 3])
        self.assertEqual(last(text, reach(0, 0, 1, 1, 1, 4, 50, 50, 10, 2, 1, 0, 0)), [1, 1])
        self.assertEqual(last(text, reach(0, 0, 1, 1, 2, 3, 50, 50, 10, 2, 1, 0, 0)), [1, 1])
        self.assertEqual(last(text, raster(0, 0, 1, 1, 2, 4, 50, 50, 10, 2, 1)), [1, 3])
        text = SQUARE + "keep all 1 1 0 54 55\n"
        self.assertEqual(last(text, reach(0, 0, 1, 1, 1, 3, 50, 50, 10, 1, 2, 0, 0)), [2, 1, 1])
        self.assertEqual(last(text, reach(0, 0, 1, 1, 1, 4, 50, 50, 10, 1, 2, 0, 0)), [2, 1, 0])

    def test_no_slanting_steps(self):
        text = SQUARE + "keep all 1 1 0 20 10\nkeep all 1 1 0 10 20\n"
        self.assertEqual(last(text, raster(0, *THIN, 10, 10, 10, 2, 2)), [2, 1, 2])
        self.assertEqual(last(text, reach(0, *THIN, 10, 10, 10, 2, 2, 0, 0)), [2, 1, 0])
        self.assertEqual(last(text, reach(0, *THIN, 10, 10, 10, 2, 2, 1, 1)), [2, 0, 2])

    def test_within_the_raster(self):
        # Beyond the raster's upper row there would be a way round.
        text = WIDE + "keep all 1 1 0 55 0 55 95\n"
        self.assertEqual(last(text, reach(0, *THIN, 10, 10, 10, 10, 9, 0, 0)), [9] + [31] * 9)
        self.assertEqual(last(text, reach(0, *THIN, 10, 10, 10, 10, 10, 0, 0)), [10] + [1023] * 10)

    def test_right_and_left_ends_are_not_joined(self):
        text = WIDE + "keep all 1 1 0 55 0 55 250\n"
        self.assertEqual(last(text, reach(0, *THIN, 10, 10, 10, 9, 5, 0, 2)), [5] + [31] * 5)
        self.assertEqual(last(text, reach(0, *THIN, 10, 10, 10, 9, 5, 8, 2)), [5] + [480] * 5)
        text = WIDE + "keep all 1 1 0 0 55 250 55\n"
        self.assertEqual(last(text, reach(0, *THIN, 10, 10, 10, 5, 9, 2, 0)), [9] + [31] * 5 + [0] * 4)
        self.assertEqual(last(text, reach(0, *THIN, 10, 10, 10, 5, 9, 2, 8)), [9] + [0] * 5 + [31] * 4)

    def test_long_way(self):
        self.assertEqual(last(WIDE + WALLS, reach(0, *THIN, 10, 10, 10, 24, 24, 0, 0)), [24] + [FULL_ROW] * 24)

    def test_no_such_cell(self):
        for i, j in ((3, 0), (0, 2), (-1, 0), (0, -1), (3, 2), (10 ** 18, 0), (0, -10 ** 18)):
            self.assertEqual(last(SQUARE, reach(0, *THIN, 50, 50, 1, 3, 2, i, j)), [-10])
        self.assertEqual(last(SQUARE, reach(0, *THIN, 50, 50, 1, 3, 2, 2, 1)), [2, 7, 7])

    def test_after_changes(self):
        told = reach(0, *THIN, 50, 50, 10, 2, 2, 0, 0)
        answers = ask(load(0, SQUARE), told, keep(0, 0, 1, 1, 0, 55, 0, 55, 100), told, unkeep(0, 0), told,
                      cut(0, *flat([(1, 54), (99, 54), (99, 56), (1, 56)])), told, uncut(0, 0), told)
        self.assertEqual(answers[1::2], [[2, 3, 3], [2, 1, 1], [2, 3, 3], [2, 3, 0], [2, 3, 3]])
        answers = ask(load(0, SQUARE), keep(0, 0, 1, 1, 0, 55, 0, 55, 100), mirror(0),
                      reach(0, *THIN, -60, 50, 10, 2, 1, 0, 0))
        self.assertEqual(answers[3], [1, 1])


class Way(unittest.TestCase):
    def test_straight(self):
        self.assertEqual(last(WIDE, way(0, *THIN, 10, 10, 10, 24, 24, 0, 0, 23, 23)), [1, 46])
        self.assertEqual(last(WIDE, way(0, *THIN, 10, 10, 10, 24, 24, 23, 23, 0, 0)), [1, 46])
        self.assertEqual(last(WIDE, way(0, *THIN, 10, 10, 10, 24, 24, 3, 17, 5, 2)), [1, 17])
        self.assertEqual(last(WIDE, way(0, *THIN, 10, 10, 10, 24, 1, 20, 0, 2, 0)), [1, 18])
        self.assertEqual(last(WIDE, way(0, *THIN, 10, 10, 10, 1, 24, 0, 2, 0, 20)), [1, 18])
        self.assertEqual(last(WIDE, way(0, *THIN, 10, 10, 10, 24, 24, 3, 3, 3, 4)), [1, 1])

    def test_same_cell_twice(self):
        self.assertEqual(last(SQUARE, way(0, *THIN, 50, 50, 10, 3, 3, 1, 2, 1, 2)), [1, 0])
        self.assertEqual(last(SQUARE, way(0, *THIN, 50, 50, 10, 1, 1, 0, 0, 0, 0)), [1, 0])
        self.assertEqual(last(SQUARE, way(0, *THIN, 0, 0, 10, 3, 3, 0, 0, 0, 0)), [0, 0])

    def test_first_or_last_cell_that_is_not_free(self):
        self.assertEqual(last(SQUARE, way(0, *THIN, 0, 0, 10, 3, 3, 0, 0, 1, 1)), [0, 0])
        self.assertEqual(last(SQUARE, way(0, *THIN, 0, 0, 10, 3, 3, 1, 1, 0, 0)), [0, 0])
        self.assertEqual(last(SQUARE, way(0, *THIN, 0, 0, 10, 3, 3, 1, 1, 2, 2)), [1, 2])

    def test_no_way(self):
        text = SQUARE + "keep all 1 1 0 55 0 55 100\n"
        self.assertEqual(last(text, way(0, *THIN, 50, 50, 10, 2, 2, 0, 0, 1, 0)), [0, 0])
        self.assertEqual(last(text, way(0, *THIN, 50, 50, 10, 2, 2, 0, 0, 0, 1)), [1, 1])

    def test_round_a_spot(self):
        text = SQUARE + "keep all 1 1 0 55 50\n"
        self.assertEqual(last(text, way(0, *THIN, 50, 50, 10, 2, 2, 0, 0, 1, 0)), [1, 3])
        self.assertEqual(last(text, way(0, *THIN, 50, 50, 10, 2, 1, 0, 0, 1, 0)), [0, 0])
        self.assertEqual(last(text, way(0, *THIN, 50, 40, 10, 2, 2, 1, 1, 0, 1)), [1, 3])

    def test_round_a_wall(self):
        text = SQUARE + "keep all 1 1 0 55 0 55 75\n"
        self.assertEqual(last(text, way(0, *THIN, 10, 10, 10, 9, 9, 4, 0, 5, 0)), [1, 15])
        self.assertEqual(last(text, way(0, *THIN, 10, 10, 10, 9, 9, 0, 0, 8, 0)), [1, 22])
        self.assertEqual(last(text, way(0, *THIN, 10, 10, 10, 9, 9, 5, 3, 4, 3)), [1, 9])
        self.assertEqual(last(text, way(0, *THIN, 10, 10, 10, 9, 7, 4, 0, 5, 0)), [0, 0])

    def test_the_shorter_of_two_ways(self):
        text = SQUARE + "keep all 1 1 0 55 25 55 85\n"
        self.assertEqual(last(text, way(0, *THIN, 10, 10, 10, 9, 9, 4, 3, 5, 3)), [1, 5])
        self.assertEqual(last(text, way(0, *THIN, 10, 10, 10, 9, 9, 4, 6, 5, 6)), [1, 5])
        self.assertEqual(last(text, way(0, *THIN, 10, 10, 10, 9, 9, 4, 5, 5, 5)), [1, 7])

    def test_long_way(self):
        for first, end in (((0, 0), (0, 23)), ((0, 23), (0, 0))):
            self.assertEqual(last(WIDE + WALLS, way(0, *THIN, 10, 10, 10, 24, 24, *first, *end)), [1, 575])
        self.assertEqual(last(WIDE + WALLS, way(0, *THIN, 10, 10, 10, 24, 24, 0, 0, 0, 1)), [1, 47])

    def test_no_such_cell(self):
        for i, j in ((3, 0), (0, 2), (-1, 0), (0, -1), (3, 2), (10 ** 18, 0), (0, -10 ** 18)):
            self.assertEqual(last(SQUARE, way(0, *THIN, 50, 50, 1, 3, 2, i, j, 0, 0)), [-10])
            self.assertEqual(last(SQUARE, way(0, *THIN, 50, 50, 1, 3, 2, 0, 0, i, j)), [-10])
            self.assertEqual(last(SQUARE, way(0, *THIN, 50, 50, 1, 3, 2, i, j, i, j)), [-10])
        self.assertEqual(last(SQUARE, way(0, *THIN, 0, 0, 1, 3, 2, 0, 0, 3, 0)), [-10])
        self.assertEqual(last(SQUARE, way(0, *THIN, 50, 50, 1, 3, 2, 2, 1, 0, 0)), [1, 3])


if __name__ == "__main__":
    unittest.main()
