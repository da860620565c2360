"""How boards are printed, and the form of skeletons."""

import unittest

from tests.helper import FULL, SQUARE, ask, load, loaded, printed, printing, words


class Printing(unittest.TestCase):
    def test_answer(self):
        text = list(SQUARE.encode())
        self.assertEqual(ask(load(1, SQUARE), printing(1)), [[0], [len(text)] + text])

    def test_whole_board(self):
        self.assertEqual(printed(FULL), FULL)

    def test_line_feed_at_the_end(self):
        self.assertEqual(printed(SQUARE[:-1]), SQUARE)

    def test_passed_over_lines_and_blanks_are_gone(self):
        told = "# a board\n\n  copper   1\n#\noutline 0 0  100 0 100 100 0 100   \n\n#"
        self.assertEqual(printed(told), SQUARE)

    def test_cuts_before_keeps_each_in_their_order(self):
        keeps = ["keep part 1 1 5 7 7\n", "keep all 1 1 0 8 8\n", "keep track 1 1 2 9 9\n", "keep via 1 1 0 1 1\n"]
        cuts = ["cut 50 50 60 50 60 60\n", "cut 20 20 30 20 30 30\n"]
        told = SQUARE + keeps[0] + cuts[0] + keeps[1] + keeps[2] + cuts[1] + keeps[3]
        self.assertEqual(printed(told), SQUARE + "".join(cuts + keeps))

    def test_greatest_and_least_numbers(self):
        text = ("copper 10000000\ncore 10000000\ncopper 1\n"
                "outline -1000000000 -1000000000 1000000000 -1000000000 0 1000000000\n"
                "keep all 1 2 1000000000 1000000000 -1000000000\n")
        self.assertEqual(printed(text), text)

    def test_printed_text_tells_the_same_board(self):
        told = SQUARE + "cut 9 9 9 5 5 5\nkeep via 1 1 4 9 9 3 3\n"
        self.assertEqual(printed(printed(told)), printed(told))
        self.assertEqual(loaded(printed(told)), 0)

    def test_refusals(self):
        self.assertEqual(ask(printing(0), printing(1), printing(2), printing(-1)), [[-2], [-2], [-1], [-1]])


class Form(unittest.TestCase):
    def form(self, *points):
        """The points of a keep-out as they are printed."""
        text = printed(SQUARE + "keep all 1 1 0 " + words(points))
        numbers = [int(word) for word in text.splitlines()[-1].split()[5:]]
        return list(zip(numbers[0::2], numbers[1::2]))

    def assert_form_of_polygon(self, *form):
        for first in range(len(form)):
            told = form[first:] + form[:first]
            self.assertEqual(self.form(*told), list(form))
            self.assertEqual(self.form(*told[::-1]), list(form))
            line = "outline " + words(form) + "\n"
            self.assertEqual(printed("copper 1\noutline " + words(told)), "copper 1\n" + line)
            self.assertEqual(printed("copper 1\noutline " + words(told[::-1])), "copper 1\n" + line)

    def test_spot(self):
        self.assertEqual(self.form((3, -4)), [(3, -4)])

    def test_bar(self):
        for form in ([(5, 1), (0, 2)], [(0, 1), (5, 2)], [(3, 0), (3, 9)], [(-2, 4), (7, 4)]):
            self.assertEqual(self.form(*form), form)
            self.assertEqual(self.form(*form[::-1]), form)

    def test_triangle(self):
        self.assert_form_of_polygon((0, 0), (9, 0), (9, 9))
        self.assert_form_of_polygon((5, -3), (6, 8), (-7, 4))

    def test_leftmost_of_several_lowest(self):
        self.assert_form_of_polygon((-4, -1), (8, -1), (5, 3), (-9, 3))
        self.assert_form_of_polygon((0, 0), (2, 0), (3, 4), (4, 0), (6, 0), (3, 9))

    def test_flat_corners_are_kept(self):
        self.assert_form_of_polygon((0, 0), (3, 0), (5, 0), (9, 0), (9, 9), (4, 4))
        self.assert_form_of_polygon((0, 0), (9, 0), (9, 3), (9, 9), (0, 9), (0, 1))

    def test_polygon_that_is_not_convex(self):
        self.assert_form_of_polygon((3, 0), (6, 9), (3, 2), (0, 9))
        self.assert_form_of_polygon((0, 0), (9, 0), (9, 9), (6, 9), (6, 3), (3, 3), (3, 9), (0, 9))

    def test_cut(self):
        told = SQUARE + "cut 5 9 9 5 5 5\n"
        self.assertEqual(printed(told), SQUARE + "cut 5 5 9 5 5 9\n")


if __name__ == "__main__":
    unittest.main()
