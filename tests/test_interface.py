"""How calls are told and answers given back, and that nothing is kept or changed."""

import unittest

import copperboard.boards
from copperboard.boards import answers
from tests.helper import (FULL, HUGE, SQUARE, Guarded, area, ask, between, copy, cut, cutout, keep, keepout, load, may,
                          mirror, point, printing, raster, reach, reasons, room, same, shift, size, text_of, turn, uncut,
                          unkeep, way)

THING = (0, 1, 1, 0)
CELLS = (45, 45, 5, 3, 3)


class Form(unittest.TestCase):
    def test_name(self):
        self.assertIs(copperboard.boards.answers, answers)

    def test_written_out(self):
        text = [99, 111, 112, 112, 101, 114, 32, 49, 10] + list(b"outline 0 0 9 0 9 9")
        calls = [0, 1, len(text)] + text + [4, 1, 5, 1, 9, 1, 5, 3, 10, 1, 1, 1, 3, 1, 0, 2, 0, 1]
        calls += [11, 1, 0, 1, 1, 0, 1, 2, 6, 3, 11, 1, 0, 1, 1, 0, 1, 0, 6, 1, 7, 1, 1, 1, 8, 0, 4]
        expected = [1, 0, 5, 1, 1, 3, 0, 0, 1, 81, 2, 4, 0, 1, -3, 1, -2, 1, 0, 2, 0, 0, 1, -7, 1, 0, 1, 0, 1, 0]
        self.assertEqual(answers(calls), expected)

    def test_written_out_from_12_on(self):
        text = list(b"copper 1\noutline 0 0 9 0 9 9 0 9")
        calls = [0, 0, len(text)] + text
        calls += [12, 0, 0, 1, 1, 0, 2, 2, 1, 1, 13, 0, 0, 1, 1, 0, 4, 3, 3, 5, 3]
        calls += [14, 0, 3, 1, 1, 1, 4, 6, 2, 6, 1, 16, 0, 0, 15, 0, 0, 16, 0, 0]
        calls += [17, 0, 6, 5, 6, 6, 5, 5, 5, 19, 0, 0, 18, 0, 0, 19, 0, 0]
        calls += [20, 0, 0, 1, 1, 0, 1, 0, 1, 2, 3, 2, 21, 0, 0, 1, 1, 0, 1, 0, 1, 2, 3, 2, 0, 0]
        calls += [22, 0, 0, 1, 1, 0, 1, 0, 1, 2, 3, 2, 1, 0, 2, 1, 4, 0]
        expected = [1, 0, 5, 2, 2, 0, 2, 3, 3, 3, 2, 0]
        expected += [1, 0, 8, 3, 1, 1, 1, 6, 1, 6, 2, 1, 0, 1, -10]
        expected += [1, 0, 7, 3, 5, 5, 6, 5, 5, 6, 1, 0, 1, -10]
        expected += [3, 2, 6, 6, 3, 2, 0, 0, 2, 1, 2, 5, 1, 1, 4, 0, 0]
        self.assertEqual(answers(calls), expected)

    def test_print_tells_how_many_bytes(self):
        flat = answers(load(0, SQUARE) + printing(0))
        count = len(SQUARE)
        self.assertEqual(flat, [1, 0, count + 1, count] + list(SQUARE.encode()))

    def test_a_refusal_is_its_number_alone(self):
        self.assertEqual(answers([1, 0]), [1, -2])
        self.assertEqual(answers([9, 5, 1, 1, 4, 0]), [1, -1, 1, -2])

    def test_200_calls(self):
        self.assertEqual(ask(load(0, FULL), *[size(0)] * 199)[1:], [[3, 1823, 4, 2, 3]] * 199)

    def test_25_prints(self):
        told = ask(load(0, FULL), *[printing(0)] * 25)[1:]
        self.assertEqual(told, [[len(FULL)] + list(FULL.encode())] * 25)


class NothingChanges(unittest.TestCase):
    def test_list_handed_in(self):
        calls = (load(0, FULL), mirror(0), shift(0, 1, 1), turn(0, 1), copy(1, 0), may(0, 0, 1, 1, 0, 1, 7, 7), size(1),
                 load(0, FULL), reasons(0, *THING, 1, 7, 7, 9, 3, 5, 5), room(0, *THING, 9, 9, 3, 7),
                 keep(0, *THING, 9, 9, 9, 3, 5, 5), keepout(0, 3), unkeep(0, 0), cut(0, 50, 55, 55, 50, 50, 50), cutout(0, 2),
                 uncut(0, 0), raster(0, *THING, 1, *CELLS), reach(0, *THING, 1, *CELLS, 1, 1),
                 way(0, *THING, 1, *CELLS, 1, 1, 0, 0))
        told = [number for call in calls for number in call]
        handed = Guarded(told)
        answers(handed)
        self.assertEqual(list(handed), told)

    def test_list_given_back_is_new(self):
        calls = load(0, SQUARE) + size(0)
        first = answers(calls)
        expected = list(first)
        first.clear()
        self.assertEqual(answers(calls), expected)

    def test_nothing_is_kept(self):
        calls = load(0, FULL) + load(1, SQUARE) + mirror(0) + keep(0, *THING, 1, 1) + unkeep(0, 0) + uncut(0, 1) + printing(0)
        first = answers(calls)
        self.assertEqual(ask(size(0), size(1)), [[-2], [-2]])
        self.assertEqual(answers(calls), first)


class SeveralCalls(unittest.TestCase):
    REFUSED = (
        load(0, "copper 1\nx"), load(2, SQUARE), load(0, ""), copy(0, 1), copy(2, 0), copy(0, -1), same(0, 1),
        mirror(1), mirror(2), shift(0, HUGE, 0), shift(0, 0, -HUGE), shift(1, 1, 1), turn(1, 1), turn(-1, 1),
        point(0, HUGE, 0), between(0, 1, 1), may(0, 0, 1, 1, 0, 0, 5, 5), may(0, 0, 1, 1, 0, 1), area(1), printing(1),
        reasons(0, *THING, 0, 5, 5), room(0, *THING), keep(0, *THING), keep(0, 4, 1, 1, 0, 5, 5), keep(1, *THING, 5, 5),
        unkeep(0, 3), unkeep(0, -1), unkeep(1, 0), keepout(0, 3), cut(0), cut(0, -15, 15, -5, 15, -5, 25), cut(1, 1, 1),
        uncut(0, 2), uncut(0, -1), uncut(1, 0), cutout(0, 2), raster(0, *THING, 1, 0, 0, 0, 1, 1),
        reach(0, *THING, 1, *CELLS, 3, 0), way(0, *THING, 1, *CELLS, 0, 0, 0, 3),
    )

    def test_refused_calls_change_nothing(self):
        for call in self.REFUSED:
            with self.subTest(call):
                answer = ask(load(0, FULL), turn(0, 1), printing(0), call, printing(0), size(1))
                self.assertEqual(len(answer[3]), 1)
                self.assertLess(answer[3][0], 0)
                self.assertEqual(answer[4], answer[2])
                self.assertEqual(answer[5], [-2])

    def test_asking_calls_change_nothing(self):
        asking = (printing(0), same(0, 0), size(0), area(0), point(0, 5, 5), between(0, 1, 2),
                  may(0, 0, 1, 1, 0, 1, 50, 50), reasons(0, *THING, 1, 50, 50), room(0, *THING, 50, 50), keepout(0, 1),
                  cutout(0, 1), raster(0, *THING, 1, *CELLS), reach(0, *THING, 1, *CELLS, 0, 0),
                  way(0, *THING, 1, *CELLS, 0, 0, 2, 2))
        for call in asking:
            answer = ask(load(0, FULL), printing(0), call, printing(0), size(1))
            self.assertEqual(answer[3], answer[1])
            self.assertEqual(answer[4], [-2])

    def test_a_day_at_the_board(self):
        answer = ask(
            load(0, FULL), copy(1, 0), mirror(1), same(0, 1), shift(1, 100, 0), point(1, 85, 15), shift(1, HUGE, 0),
            mirror(1), shift(1, 100, 0), same(0, 1), turn(0, 5), turn(0, -1), same(0, 1), load(1, "#"), same(1, 0),
        )
        self.assertEqual(answer, [[0], [0], [0], [0], [0], [3, 0], [-8], [0], [0], [1], [0], [0], [1], [-102], [1]])

    def test_another_day_with_refusals_in_between(self):
        calls = (
            load(0, SQUARE), keep(0, 3, 1, 1, 0, 55, 0, 55, 75), keep(0, 4, 1, 1, 0, 5, 5), copy(1, 0),
            cut(0, 40, 80, 50, 80, 50, 95), cut(0, 45, 80, 48, 80, 48, 85), cut(0, 40, 20, 70, 20, 70, 30), cut(0, 9, 9),
            unkeep(0, 1), keep(0, 0, 1, 1, 2, 20, 20), unkeep(0, 0), keepout(0, 0), keepout(0, 1), uncut(0, 2), uncut(0, 0),
            cutout(0, 0), printing(0), reach(0, *THING, 1, 45, 45, 20, 2, 1, 0, 0), printing(1), unkeep(1, 0), size(1),
            same(0, 1),
        )
        answer = ask(*calls)
        self.assertEqual(answer[:16], [
            [0], [0], [-4], [0], [0], [-12], [1], [-9], [-10], [1], [1], [0, 1, 1, 2, 20, 20], [-10], [-10], [1],
            [3, 40, 20, 70, 20, 70, 30],
        ])
        self.assertEqual(text_of(answer[16]), SQUARE + "cut 40 20 70 20 70 30\nkeep track 1 1 2 20 20\n")
        self.assertEqual(answer[17], [1, 3])
        self.assertEqual(text_of(answer[18]), SQUARE + "keep all 1 1 0 55 0 55 75\n")
        self.assertEqual(answer[19:], [[0], [1, 1, 4, 0, 0], [0]])


if __name__ == "__main__":
    unittest.main()
