"""How calls are told and answers given back, and that nothing is kept or changed."""

import unittest

import copperboard.boards
from copperboard.boards import answers
from tests.helper import (FULL, HUGE, SQUARE, Guarded, area, ask, between, copy, load, may, mirror, point, printing,
                          same, shift, size, turn)


class Form(unittest.TestCase):
    def test_name(self):
        self.assertIs(copperboard.boards.answers, answers)

    def test_written_out(self):
        text = [99, 111, 112, 112, 101, 114, 32, 49, 10] + list(b"outline 0 0 9 0 9 9")
        calls = [0, 1, len(text)] + text + [4, 1, 5, 1, 9, 1, 5, 3, 10, 1, 1, 1, 3, 1, 0, 2, 0, 1]
        calls += [11, 1, 0, 1, 1, 0, 1, 2, 6, 3, 11, 1, 0, 1, 1, 0, 1, 0, 6, 1, 7, 1, 1, 1, 8, 0, 4]
        expected = [1, 0, 5, 1, 1, 3, 0, 0, 1, 81, 2, 4, 0, 1, -3, 1, -2, 1, 0, 2, 0, 0, 1, -7, 1, 0, 1, 0, 1, 0]
        self.assertEqual(answers(calls), expected)

    def test_print_tells_how_many_bytes(self):
        flat = answers(load(0, SQUARE) + printing(0))
        count = len(SQUARE)
        self.assertEqual(flat, [1, 0, count + 1, count] + list(SQUARE.encode()))

    def test_a_refusal_is_its_number_alone(self):
        self.assertEqual(answers([1, 0]), [1, -2])
        self.assertEqual(answers([9, 5, 1, 1, 4, 0]), [1, -1, 1, -2])

    def test_200_calls(self):
        self.assertEqual(ask(load(0, FULL), *[size(0)] * 199)[1:], [[3, 1823, 4, 2, 3]] * 199)

    def test_25_prints(self):
        told = ask(load(0, FULL), *[printing(0)] * 25)[1:]
        self.assertEqual(told, [[len(FULL)] + list(FULL.encode())] * 25)


class NothingChanges(unittest.TestCase):
    def test_list_handed_in(self):
        calls = (load(0, FULL), mirror(0), shift(0, 1, 1), turn(0, 1), copy(1, 0), may(0, 0, 1, 1, 0, 1, 7, 7), size(1))
        told = [number for call in calls for number in call]
        handed = Guarded(told)
        answers(handed)
        self.assertEqual(list(handed), told)

    def test_list_given_back_is_new(self):
        calls = load(0, SQUARE) + size(0)
        first = answers(calls)
        expected = list(first)
        first.clear()
        self.assertEqual(answers(calls), expected)

    def test_nothing_is_kept(self):
        calls = load(0, FULL) + load(1, SQUARE) + mirror(0) + printing(0)
        first = answers(calls)
        self.assertEqual(ask(size(0), size(1)), [[-2], [-2]])
        self.assertEqual(answers(calls), first)


class SeveralCalls(unittest.TestCase):
    REFUSED = (
        load(0, "copper 1\nx"), load(2, SQUARE), load(0, ""), copy(0, 1), copy(2, 0), copy(0, -1), same(0, 1),
        mirror(1), mirror(2), shift(0, HUGE, 0), shift(0, 0, -HUGE), shift(1, 1, 1), turn(1, 1), turn(-1, 1),
        point(0, HUGE, 0), between(0, 1, 1), may(0, 0, 1, 1, 0, 0, 5, 5), may(0, 0, 1, 1, 0, 1), area(1), printing(1),
    )

    def test_refused_calls_change_nothing(self):
        for call in self.REFUSED:
            with self.subTest(call):
                answer = ask(load(0, FULL), turn(0, 1), printing(0), call, printing(0), size(1))
                self.assertEqual(len(answer[3]), 1)
                self.assertLess(answer[3][0], 0)
                self.assertEqual(answer[4], answer[2])
                self.assertEqual(answer[5], [-2])

    def test_asking_calls_change_nothing(self):
        asking = (printing(0), same(0, 0), size(0), area(0), point(0, 5, 5), between(0, 1, 2),
                  may(0, 0, 1, 1, 0, 1, 50, 50))
        for call in asking:
            answer = ask(load(0, FULL), printing(0), call, printing(0), size(1))
            self.assertEqual(answer[3], answer[1])
            self.assertEqual(answer[4], [-2])

    def test_a_day_at_the_board(self):
        answer = ask(
            load(0, FULL), copy(1, 0), mirror(1), same(0, 1), shift(1, 100, 0), point(1, 85, 15), shift(1, HUGE, 0),
            mirror(1), shift(1, 100, 0), same(0, 1), turn(0, 5), turn(0, -1), same(0, 1), load(1, "#"), same(1, 0),
        )
        self.assertEqual(answer, [[0], [0], [0], [0], [0], [3, 0], [-8], [0], [0], [1], [0], [0], [1], [-102], [1]])


if __name__ == "__main__":
    unittest.main()
