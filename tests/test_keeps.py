"""The calls keep, unkeep and keepout."""

import unittest

from tests.helper import (FULL, HUGE, LIMIT, SQUARE, area, ask, comb, copy, flat, keep, keepout, last, load, may, mirror,
                          point, printed, printing, reasons, same, shift, size, text_of, turn, unkeep)

NO_KEEPS = FULL[:FULL.index("keep")]


def spots(count):
    """So many calls of keep, each with a spot of its own."""
    return [keep(0, 3, 1, 1, 0, i, 7) for i in range(count)]


class Keep(unittest.TestCase):
    def kept(self, *arguments):
        """The keep-out of the call keep, as it is answered."""
        answers = ask(load(0, NO_KEEPS), keep(0, *arguments), keepout(0, 0))
        self.assertEqual(answers[1], [0])
        return answers[2]

    def test_answers_its_number(self):
        self.assertEqual(ask(load(0, FULL), keep(0, 0, 1, 1, 0, 5, 5), keep(0, 0, 1, 1, 0, 5, 5))[1:], [[3], [4]])
        self.assertEqual(ask(load(1, SQUARE), keep(1, 0, 1, 1, 0, 5, 5))[1:], [[0]])

    def test_behind_the_others(self):
        answers = ask(load(0, FULL), keep(0, 2, 1, 3, 9, 40, 5, 30, 5), keep(0, 1, 2, 2, 0, 7, 8), printing(0))
        self.assertEqual(text_of(answers[3]), FULL + "keep part 1 3 9 30 5 40 5\nkeep via 2 2 0 7 8\n")

    def test_kinds(self):
        for kind, name in enumerate(("track", "via", "part", "all")):
            self.assertEqual(self.kept(kind, 1, 1, 0, 5, 5), [kind, 1, 1, 0, 5, 5])
            text = text_of(ask(load(0, NO_KEEPS), keep(0, kind, 1, 1, 0, 5, 5), printing(0))[2])
            self.assertEqual(text, NO_KEEPS + f"keep {name} 1 1 0 5 5\n")

    def test_layers_and_radius(self):
        for lo, hi in ((1, 1), (1, 3), (2, 3), (3, 3)):
            for r in (0, 1, LIMIT):
                self.assertEqual(self.kept(3, lo, hi, r, 5, 5), [3, lo, hi, r, 5, 5])

    def test_form(self):
        self.assertEqual(self.kept(0, 1, 1, 0, 9, 3, 4, 3), [0, 1, 1, 0, 4, 3, 9, 3])
        self.assertEqual(self.kept(0, 1, 1, 0, 4, 9, 9, 3), [0, 1, 1, 0, 9, 3, 4, 9])
        self.assertEqual(self.kept(0, 1, 1, 0, 4, 3, 9, 3), [0, 1, 1, 0, 4, 3, 9, 3])
        form = [(2, 0), (5, 0), (9, 0), (9, 9), (4, 4)]
        for first in range(5):
            told = form[first:] + form[:first]
            self.assertEqual(self.kept(1, 2, 3, 6, *flat(told)), [1, 2, 3, 6] + flat(form))
            self.assertEqual(self.kept(1, 2, 3, 6, *flat(told[::-1])), [1, 2, 3, 6] + flat(form))

    def test_32_points(self):
        self.assertEqual(self.kept(1, 1, 1, 0, *flat(comb(32))), [1, 1, 1, 0] + flat(comb(32)))
        self.assertEqual(last(FULL, keep(0, 1, 1, 1, 0, *flat(comb(33)))), [-7])

    def test_anywhere_and_over_one_another(self):
        for x, y in ((500, 500), (0, 0), (15, 15), (50, 50), (LIMIT, -LIMIT), (-LIMIT, LIMIT)):
            self.assertEqual(ask(load(0, FULL), *[keep(0, 3, 1, 3, LIMIT, x, y)] * 2)[1:], [[3], [4]])

    def test_32_and_33(self):
        answers = ask(load(0, SQUARE), *spots(33), size(0), keepout(0, 31), keepout(0, 32))
        self.assertEqual(answers[1:33], [[i] for i in range(32)])
        self.assertEqual(answers[33:], [[-11], [1, 1, 4, 0, 32], [3, 1, 1, 0, 31, 7], [-10]])

    def test_32_and_33_behind_a_text(self):
        text = SQUARE + "keep all 1 1 0 5 5\n" * 31
        answers = ask(load(0, text), *spots(2), unkeep(0, 0), *spots(2), size(0))
        self.assertEqual(answers, [[0], [31], [-11], [31], [31], [-11], [1, 1, 4, 0, 32]])

    def test_may_sees_it(self):
        answers = ask(load(0, SQUARE), may(0, 0, 1, 1, 3, 2, 60, 50), keep(0, 0, 1, 1, 6, 50, 50),
                      may(0, 0, 1, 1, 3, 1, 60, 50), may(0, 0, 1, 1, 3, 2, 60, 50), may(0, 1, 1, 1, 3, 2, 60, 50))
        self.assertEqual(answers[1:], [[0, 0], [0], [0, 0], [4, 0], [0, 0]])

    def test_area_and_point_do_not(self):
        calls = (area(0), point(0, 50, 50))
        answers = ask(load(0, SQUARE), *calls, keep(0, 3, 1, 1, 9, 50, 50), *calls)
        self.assertEqual(answers[1:3], answers[4:])


class Keepout(unittest.TestCase):
    def test_answer(self):
        answers = ask(load(0, FULL), keepout(0, 0), keepout(0, 1), keepout(0, 2))
        self.assertEqual(answers[1:], [[0, 1, 2, 3, 50, 50], [3, 2, 3, 0, 30, 60, 40, 60],
                                       [1, 3, 3, 1, 60, 20, 70, 20, 70, 30]])

    def test_there_is_none(self):
        for i in (-1, 3, -3, HUGE, -HUGE):
            self.assertEqual(last(FULL, keepout(0, i)), [-10])
        self.assertEqual(last(SQUARE, keepout(0, 0)), [-10])

    def test_after_moves(self):
        self.assertEqual(ask(load(0, FULL), mirror(0), keepout(0, 2))[2], [1, 1, 1, 1, -70, 20, -60, 20, -70, 30])
        self.assertEqual(ask(load(0, FULL), shift(0, 5, -6), keepout(0, 1))[2], [3, 2, 3, 0, 35, 54, 45, 54])
        self.assertEqual(ask(load(0, FULL), turn(0, 2), keepout(0, 1))[2], [3, 2, 3, 0, -40, -60, -30, -60])


class Unkeep(unittest.TestCase):
    def left(self, i):
        answers = ask(load(0, FULL), unkeep(0, i), printing(0))
        self.assertEqual(answers[1], [2])
        return text_of(answers[2])

    def test_first_middle_and_last(self):
        lines = FULL.splitlines(True)
        for i in range(3):
            self.assertEqual(self.left(i), "".join(line for line in lines if line != lines[8 + i]))

    def test_those_behind_are_numbered_one_less(self):
        answers = ask(load(0, SQUARE), *spots(5), unkeep(0, 1), *[keepout(0, i) for i in range(5)])[6:]
        self.assertEqual(answers[0], [4])
        self.assertEqual([answer[-2] for answer in answers[1:5]], [0, 2, 3, 4])
        self.assertEqual(answers[5], [-10])
        answers = ask(load(0, SQUARE), *spots(5), unkeep(0, 1), reasons(0, 0, 1, 1, 0, 1, 0, 7, 4, 7))
        self.assertEqual(answers[-1], [5, 2, 3, 4, 0, 4, 1, 4, 2, 4, 3])

    def test_all_of_them(self):
        answers = ask(load(0, FULL), unkeep(0, 0), unkeep(0, 0), unkeep(0, 0), unkeep(0, 0), printing(0))
        self.assertEqual(answers[1:5], [[2], [1], [0], [-10]])
        self.assertEqual(text_of(answers[5]), NO_KEEPS)

    def test_there_is_none(self):
        for i in (-1, 3, -3, HUGE, -HUGE):
            answers = ask(load(0, FULL), printing(0), unkeep(0, i), printing(0))
            self.assertEqual(answers[2], [-10])
            self.assertEqual(answers[3], answers[1])

    def test_back_again(self):
        answers = ask(load(0, FULL), copy(1, 0), keep(0, 3, 1, 1, 5, 60, 60), same(0, 1), unkeep(0, 3), same(0, 1),
                      unkeep(0, 2), keep(0, 1, 3, 3, 1, 70, 30, 70, 20, 60, 20), same(0, 1))
        self.assertEqual(answers[2:], [[3], [0], [3], [1], [2], [2], [1]])


class ChangedBoards(unittest.TestCase):
    MOVES = ((), (mirror(0),), (shift(0, -7, 5),), (turn(0, 1),), (turn(0, 2), mirror(0), shift(0, 1, 1)))

    def test_like_one_that_a_text_tells(self):
        added = (keep(0, 2, 1, 2, 4, 90, 40, 80, 30), keep(0, 3, 1, 3, 0, 30, 30, 30, 40, 40, 30))
        text = FULL.replace("keep all 2 3 0 30 60 40 60\n", "")
        text += "keep part 1 2 4 80 30 90 40\nkeep all 1 3 0 30 30 40 30 30 40\n"
        for moves in self.MOVES:
            answers = ask(load(0, FULL), unkeep(0, 1), *added, *moves, printing(0))
            self.assertEqual(text_of(answers[-1]), printed(text, *moves))
            answers = ask(load(0, text), *moves, copy(1, 0), load(0, FULL), unkeep(0, 1), *added, *moves, same(0, 1))
            self.assertEqual(answers[-1], [1])

    def test_shift_looks_at_it(self):
        answers = ask(load(0, SQUARE), keep(0, 3, 1, 1, LIMIT, LIMIT, 0), shift(0, 1, 0), shift(0, 0, 1), unkeep(0, 0),
                      shift(0, 1, 0))
        self.assertEqual(answers[2:], [[-8], [0], [0], [0]])


if __name__ == "__main__":
    unittest.main()
