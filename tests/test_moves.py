"""The calls mirror, shift and turn."""

import unittest

from tests.helper import FULL, HUGE, LIMIT, SQUARE, area, ask, load, mirror, printed, printing, shift, turn


class Mirror(unittest.TestCase):
    def test_whole_board(self):
        self.assertEqual(printed(FULL, mirror(0)), (
            "copper 18\ncore 200\ncopper 70\ncore 1500\ncopper 35\n"
            "outline -100 0 0 0 0 100 -100 100\n"
            "cut -20 10 -10 10 -10 20 -20 20\n"
            "cut -80 70 -70 70 -80 80\n"
            "keep track 2 3 3 -50 50\n"
            "keep all 1 2 0 -40 60 -30 60\n"
            "keep via 1 1 1 -70 20 -60 20 -70 30\n"
        ))

    def test_twice(self):
        self.assertEqual(printed(FULL, mirror(0), mirror(0)), FULL)

    def test_bars(self):
        told = SQUARE + "keep all 1 1 0 5 1 0 2\nkeep all 1 1 0 3 0 3 9\n"
        self.assertEqual(printed(told, mirror(0)).splitlines()[2:],
                         ["keep all 1 1 0 -5 1 0 2", "keep all 1 1 0 -3 0 -3 9"])

    def test_ends_of_the_range(self):
        text = "copper 1\noutline -1000000000 0 1000000000 0 0 5\nkeep all 1 1 0 1000000000 -7\n"
        self.assertEqual(printed(text, mirror(0)), text.replace(" 1000000000 -7", " -1000000000 -7"))


class Shift(unittest.TestCase):
    def test_whole_board(self):
        self.assertEqual(printed(FULL, shift(0, 1000, -7)), (
            "copper 35\ncore 1500\ncopper 70\ncore 200\ncopper 18\n"
            "outline 1000 -7 1100 -7 1100 93 1000 93\n"
            "cut 1010 3 1020 3 1020 13 1010 13\n"
            "cut 1070 63 1080 63 1080 73\n"
            "keep track 1 2 3 1050 43\n"
            "keep all 2 3 0 1030 53 1040 53\n"
            "keep via 3 3 1 1060 13 1070 13 1070 23\n"
        ))

    def test_by_nothing_and_back(self):
        self.assertEqual(printed(FULL, shift(0, 0, 0)), FULL)
        self.assertEqual(printed(FULL, shift(0, -5, 9), shift(0, 5, -9)), FULL)

    def test_ends_of_the_range(self):
        room = LIMIT - 100
        for dx, dy in ((room, 0), (0, room), (-LIMIT, 0), (0, -LIMIT), (room, -LIMIT)):
            self.assertEqual(ask(load(0, FULL), shift(0, dx, dy)), [[0], [0]])
        for dx, dy in ((room + 1, 0), (0, room + 1), (-LIMIT - 1, 0), (0, -LIMIT - 1), (HUGE, 0), (0, -HUGE)):
            answers = ask(load(0, FULL), printing(0), shift(0, dx, dy), printing(0))
            self.assertEqual(answers[2], [-8])
            self.assertEqual(answers[3], answers[1])

    def test_greater_than_the_range(self):
        text = f"copper 1\noutline {-LIMIT} {-LIMIT} {1 - LIMIT} {-LIMIT} {-LIMIT} {1 - LIMIT}\n"
        far = f"copper 1\noutline {LIMIT - 1} {LIMIT - 1} {LIMIT} {LIMIT - 1} {LIMIT - 1} {LIMIT}\n"
        self.assertEqual(printed(text, shift(0, 2 * LIMIT - 1, 2 * LIMIT - 1)), far)
        self.assertEqual(printed(far, shift(0, 1 - 2 * LIMIT, 1 - 2 * LIMIT)), text)
        self.assertEqual(ask(load(0, text), shift(0, 2 * LIMIT, 0)), [[0], [-8]])

    def test_points_of_keep_outs_count(self):
        text = SQUARE + f"keep all 1 1 {LIMIT} {LIMIT} 0\nkeep all 1 1 0 0 {-LIMIT} 9 9\n"
        self.assertEqual(ask(load(0, text), shift(0, 1, 0)), [[0], [-8]])
        self.assertEqual(ask(load(0, text), shift(0, 0, -1)), [[0], [-8]])
        self.assertEqual(ask(load(0, text), shift(0, -1, 1)), [[0], [0]])


class Turn(unittest.TestCase):
    def test_whole_board(self):
        self.assertEqual(printed(FULL, turn(0, 1)), (
            "copper 35\ncore 1500\ncopper 70\ncore 200\ncopper 18\n"
            "outline -100 0 0 0 0 100 -100 100\n"
            "cut -20 10 -10 10 -10 20 -20 20\n"
            "cut -70 70 -70 80 -80 80\n"
            "keep track 1 2 3 -50 50\n"
            "keep all 2 3 0 -60 30 -60 40\n"
            "keep via 3 3 1 -20 60 -20 70 -30 70\n"
        ))

    def test_point_by_point(self):
        for k, x, y in ((0, 3, 7), (1, -7, 3), (2, -3, -7), (3, 7, -3)):
            line = printed(SQUARE + "keep all 1 1 0 3 7\n", turn(0, k)).splitlines()[-1]
            self.assertEqual(line, f"keep all 1 1 0 {x} {y}")

    def test_modulo_4(self):
        expected = [printed(FULL, *[turn(0, 1)] * k) for k in range(4)]
        self.assertEqual(expected[0], FULL)
        self.assertEqual(len(set(expected)), 4)
        for k in list(range(-9, 10)) + [HUGE, HUGE - 1, -HUGE, 1 - HUGE]:
            with self.subTest(k):
                self.assertEqual(printed(FULL, turn(0, k)), expected[k % 4])

    def test_bars(self):
        told = SQUARE + "keep all 1 1 0 0 4 9 4\nkeep all 1 1 0 3 0 3 9\n"
        self.assertEqual(printed(told, turn(0, 2)).splitlines()[2:],
                         ["keep all 1 1 0 -9 -4 0 -4", "keep all 1 1 0 -3 -9 -3 0"])
        self.assertEqual(printed(told, turn(0, -1)).splitlines()[2:],
                         ["keep all 1 1 0 4 -9 4 0", "keep all 1 1 0 0 -3 9 -3"])

    def test_area_stays(self):
        answers = ask(load(0, FULL), turn(0, 1), area(0), mirror(0), area(0), shift(0, 5, 5), area(0))
        self.assertEqual(answers[2::2], [[19700]] * 3)


if __name__ == "__main__":
    unittest.main()
