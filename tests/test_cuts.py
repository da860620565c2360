"""The calls cut, uncut and cutout."""

import unittest

from tests.helper import (FULL, HUGE, LIMIT, SQUARE, area, ask, comb, copy, cut, cutout, flat, last, load, may, mirror,
                          point, printed, printing, reasons, room, same, shift, size, square, text_of, turn, uncut)


def row_of_squares(count):
    """So many calls of cut, each with a square of its own."""
    return [cut(0, *flat(square(10 * i + 1, 1))) for i in range(count)]


class Cut(unittest.TestCase):
    def test_answers_its_number(self):
        self.assertEqual(last(SQUARE, cut(0, 5, 5, 9, 5, 9, 9)), [0])
        self.assertEqual(ask(load(1, FULL), cut(1, 5, 90, 9, 90, 9, 95), cut(1, 25, 90, 29, 90, 29, 95))[1:], [[2], [3]])

    def test_behind_the_others(self):
        answers = ask(load(0, FULL), cut(0, 9, 95, 9, 90, 5, 90), printing(0))
        lines = FULL.splitlines(True)
        self.assertEqual(text_of(answers[2]), "".join(lines[:8] + ["cut 5 90 9 90 9 95\n"] + lines[8:]))

    def test_form(self):
        form = [(12, 10), (15, 10), (19, 10), (19, 19), (14, 14)]
        for first in range(5):
            told = form[first:] + form[:first]
            for points in (told, told[::-1]):
                answers = ask(load(0, SQUARE), cut(0, *flat(points)), cutout(0, 0))
                self.assertEqual(answers[1:], [[0], [5] + flat(form)])

    def test_no_polygon(self):
        for numbers in ((50, 50), (50, 50, 60, 60), (50, 50, 50, 50), (50, 50, 60, 60, 70, 70),
                        (50, 50, 60, 50, 60, 50, 60, 60), (50, 50, 60, 60, 60, 50, 50, 60), (500, 500),
                        (50, 50, 70, 50, 60, 50, 60, 60)):
            self.assertEqual(last(SQUARE, cut(0, *numbers)), [-9], numbers)

    def test_number_of_points(self):
        text = "copper 1\noutline -2000 -2000 2000 -2000 2000 2000 -2000 2000\n"
        self.assertEqual(ask(load(0, text), cut(0, *flat(comb(32))), cutout(0, 0))[1:], [[0], [32] + flat(comb(32))])
        self.assertEqual(last(text, cut(0, *flat(comb(33)))), [-7])
        for numbers in ((), (5,), (5, 5, 9), (5, 5, 9, 5, 9), (5, 5, 9, 5, 9, 9, 5), range(65), range(66), range(100)):
            self.assertEqual(last(SQUARE, cut(0, *numbers)), [-7])

    def test_range(self):
        for x, y in ((LIMIT + 1, 5), (-LIMIT - 1, 5), (5, LIMIT + 1), (5, -LIMIT - 1), (HUGE, -HUGE)):
            self.assertEqual(last(SQUARE, cut(0, 1, 1, 2, 1, x, y)), [-8])
        self.assertEqual(last(SQUARE, cut(0, 1, 1, 2, 1, LIMIT, LIMIT)), [-12])
        self.assertEqual(last(SQUARE, cut(0, 1, 1, 2, 1, -LIMIT, -LIMIT)), [-12])

    def test_8_and_9(self):
        answers = ask(load(0, SQUARE), *row_of_squares(9), size(0), cutout(0, 7), cutout(0, 8))
        self.assertEqual(answers[1:9], [[i] for i in range(8)])
        self.assertEqual(answers[9:], [[-11], [1, 1, 4, 8, 0], [4] + flat(square(71, 1)), [-10]])

    def test_8_and_9_behind_a_text(self):
        text = SQUARE + "".join(f"cut {10 * i + 1} 50 {10 * i + 5} 50 {10 * i + 5} 55\n" for i in range(7))
        answers = ask(load(0, text), *row_of_squares(2), uncut(0, 0), *row_of_squares(9)[1:3], size(0))
        self.assertEqual(answers, [[0], [7], [-11], [7], [7], [-11], [1, 1, 4, 8, 0]])


class Fits(unittest.TestCase):
    def assert_fits(self, text, *points):
        for told in (points, points[::-1]):
            self.assertEqual(last(text, cut(0, *flat(told))), [text.count("cut")], told)

    def assert_no_fit(self, text, *points):
        for told in (points, points[::-1]):
            answers = ask(load(0, text), printing(0), cut(0, *flat(told)), printing(0))
            self.assertEqual(answers[2], [-12], told)
            self.assertEqual(answers[3], answers[1])

    def test_just_so_and_too_near_to_a_side(self):
        self.assert_fits(SQUARE, *square(1, 1, 98))
        for left, low in ((0, 1), (1, 0), (2, 1), (1, 2)):
            self.assert_no_fit(SQUARE, *square(left, low, 98))
        self.assert_no_fit(SQUARE, *square(0, 0, 100))

    def test_slanting_side(self):
        # The distance from the side from (0, 0) to (40, 30) is (4y - 3x) / 5.
        text = "copper 1\noutline 0 0 40 30 0 60\n"
        self.assert_fits(text, (9, 8), (11, 19), (10, 19))
        self.assert_no_fit(text, (12, 10), (13, 19), (12, 19))
        self.assert_no_fit(text, (11, 9), (11, 19), (10, 19))

    def test_outside(self):
        self.assert_no_fit(SQUARE, *square(200, 200))
        self.assert_no_fit(SQUARE, *square(98, 50))
        self.assert_no_fit(SQUARE, *square(-10, -10, 120))
        self.assert_no_fit(SQUARE, *square(101, 50))

    def test_dent_of_the_outline_between_the_corners(self):
        text = "copper 1\noutline 0 0 30 0 30 30 15 5 0 30\n"
        self.assert_fits(text, (2, 20), (15, 3), (28, 20), (15, 2))
        self.assert_no_fit(text, (2, 20), (15, 1), (28, 20))

    def test_dent_within_the_cut(self):
        text = "copper 1\noutline 0 0 90 0 90 90 50 90 50 40 40 40 40 90 0 90\n"
        self.assert_no_fit(text, (10, 10), (80, 10), (80, 80), (10, 80))
        self.assert_fits(text, (10, 10), (80, 10), (80, 80), (51, 80), (51, 39), (39, 39), (39, 80), (10, 80))

    def test_another_cut(self):
        text = SQUARE + "cut 40 40 60 40 60 60 40 60\n"
        for left, low in ((34, 50), (61, 50), (50, 34), (50, 61), (34, 34), (61, 61), (30, 50)):
            self.assert_fits(text, *square(left, low))
        for left, low in ((35, 50), (60, 50), (50, 35), (50, 60), (35, 35), (60, 60), (48, 48), (36, 38)):
            self.assert_no_fit(text, *square(left, low))

    def test_less_than_1_from_another_cut(self):
        text = SQUARE + "cut 10 10 50 40 10 40\n"
        self.assert_no_fit(text, (11, 10), (50, 10), (50, 38))
        self.assert_fits(text, (12, 10), (50, 10), (50, 38))

    def test_around_another_cut(self):
        text = SQUARE + "cut 40 40 60 40 60 60 40 60\n"
        self.assert_no_fit(text, *square(30, 30, 40))
        self.assert_no_fit(text, *square(1, 1, 98))
        self.assert_fits(text, (30, 30), (70, 30), (70, 39), (39, 39), (39, 70), (30, 70))

    def test_all_others_are_looked_at(self):
        text = SQUARE + "cut 10 10 20 10 20 20\ncut 40 40 60 40 60 60 40 60\ncut 80 80 90 80 90 90\n"
        for left, low in ((15, 12), (50, 50), (84, 80)):
            self.assert_no_fit(text, *square(left, low, 3))
        self.assert_fits(text, *square(70, 20))

    def test_once_it_is_gone_another_fits(self):
        answers = ask(load(0, FULL), cut(0, *flat(square(15, 15))), uncut(0, 0), cut(0, *flat(square(15, 15))))
        self.assertEqual(answers[1:], [[-12], [1], [1]])

    def test_keep_outs_do_not_matter(self):
        self.assertEqual(last(FULL, cut(0, *flat(square(48, 48)))), [2])


class Cutout(unittest.TestCase):
    def test_answer(self):
        self.assertEqual(ask(load(0, FULL), cutout(0, 0), cutout(0, 1))[1:],
                         [[4, 10, 10, 20, 10, 20, 20, 10, 20], [3, 70, 70, 80, 70, 80, 80]])

    def test_there_is_none(self):
        for i in (-1, 2, -2, HUGE, -HUGE):
            self.assertEqual(last(FULL, cutout(0, i)), [-10])
        self.assertEqual(last(SQUARE, cutout(0, 0)), [-10])

    def test_after_moves(self):
        self.assertEqual(ask(load(0, FULL), mirror(0), cutout(0, 1))[2], [3, -80, 70, -70, 70, -80, 80])
        self.assertEqual(ask(load(0, FULL), shift(0, 5, -6), cutout(0, 1))[2], [3, 75, 64, 85, 64, 85, 74])
        self.assertEqual(ask(load(0, FULL), turn(0, 1), cutout(0, 1))[2], [3, -70, 70, -70, 80, -80, 80])


class Uncut(unittest.TestCase):
    def test_first_and_last(self):
        lines = FULL.splitlines(True)
        for i in range(2):
            answers = ask(load(0, FULL), uncut(0, i), printing(0))
            self.assertEqual(answers[1], [1])
            self.assertEqual(text_of(answers[2]), "".join(line for line in lines if line != lines[6 + i]))

    def test_those_behind_are_numbered_one_less(self):
        answers = ask(load(0, SQUARE), *row_of_squares(5), uncut(0, 1), *[cutout(0, i) for i in range(5)])[6:]
        self.assertEqual(answers[0], [4])
        self.assertEqual([answer[1] for answer in answers[1:5]], [1, 21, 31, 41])
        self.assertEqual(answers[5], [-10])
        answers = ask(load(0, SQUARE), *row_of_squares(5), uncut(0, 1), point(0, 13, 3), point(0, 23, 3), point(0, 41, 3),
                      reasons(0, 0, 1, 1, 0, 1, 3, 3, 43, 3))
        self.assertEqual(answers[7:], [[4, 0], [3, 1], [2, 3], [4, 3, 0, 3, 1, 3, 2, 3, 3]])

    def test_all_of_them(self):
        answers = ask(load(0, FULL), uncut(0, 1), uncut(0, 0), uncut(0, 0), size(0))
        self.assertEqual(answers[1:], [[1], [0], [-10], [3, 1823, 4, 0, 3]])

    def test_there_is_none(self):
        for i in (-1, 2, -2, HUGE, -HUGE):
            answers = ask(load(0, FULL), printing(0), uncut(0, i), printing(0))
            self.assertEqual(answers[2], [-10])
            self.assertEqual(answers[3], answers[1])

    def test_back_again(self):
        answers = ask(load(0, FULL), copy(1, 0), cut(0, *flat(square(30, 30))), same(0, 1), uncut(0, 2), same(0, 1),
                      uncut(0, 1), cut(0, 80, 80, 80, 70, 70, 70), same(0, 1), uncut(0, 0),
                      cut(0, *flat(square(10, 10, 10))), same(0, 1))
        self.assertEqual(answers[2:], [[2], [0], [2], [1], [1], [1], [1], [1], [1], [0]])


class ChangedBoards(unittest.TestCase):
    MOVES = ((), (mirror(0),), (shift(0, -7, 5),), (turn(0, 3),), (turn(0, 1), mirror(0), shift(0, 1, 1)))

    def test_like_one_that_a_text_tells(self):
        added = (cut(0, *flat(square(85, 10, 10)[::-1])), cut(0, 15, 90, 10, 80, 5, 90))
        text = FULL.replace("cut 10 10 20 10 20 20 10 20\n", "") + "cut 85 10 95 10 95 20 85 20\ncut 5 90 10 80 15 90\n"
        for moves in self.MOVES:
            answers = ask(load(0, FULL), uncut(0, 0), *added, *moves, printing(0))
            self.assertEqual(text_of(answers[-1]), printed(text, *moves))
            answers = ask(load(0, text), *moves, copy(1, 0), load(0, FULL), uncut(0, 0), *added, *moves, same(0, 1))
            self.assertEqual(answers[-1], [1])

    def test_area(self):
        answers = ask(load(0, FULL), area(0), cut(0, *flat(square(30, 30, 10)[::-1])), area(0), uncut(0, 0), area(0))
        self.assertEqual(answers[1::2], [[19700], [19500], [19700]])

    def test_what_may_lie_there(self):
        answers = ask(load(0, SQUARE), may(0, 0, 1, 1, 0, 5, 45, 52), cut(0, *flat(square(50, 50))),
                      may(0, 0, 1, 1, 0, 5, 45, 52), may(0, 0, 1, 1, 0, 6, 45, 52), room(0, 0, 1, 1, 0, 52, 45),
                      point(0, 52, 52), uncut(0, 0), may(0, 0, 1, 1, 0, 6, 45, 52), point(0, 52, 52))
        self.assertEqual(answers[1:], [[0, 0], [0], [0, 0], [3, 0], [5, 3, 0], [3, 0], [0], [0, 0], [4, 0]])


if __name__ == "__main__":
    unittest.main()
