"""Texts of boards: lines, words, numbers, and which line is wrong."""

import unittest

from copperboard.boards import call_load
from tests.helper import FULL, SQUARE, ask, load, loaded, printed, printing, text_of

STACK = "copper 1\n"
OUTLINE = "outline 0 0 9 0 9 9\n"


class Lines(unittest.TestCase):
    def test_right_texts(self):
        self.assertEqual(loaded(SQUARE), 0)
        self.assertEqual(loaded(FULL), 0)

    def test_empty_text_has_no_line(self):
        self.assertEqual(loaded(""), -101)

    def test_text_without_outline_is_wrong_behind_its_last_line(self):
        self.assertEqual(loaded("\n"), -102)
        self.assertEqual(loaded("copper 1"), -102)
        self.assertEqual(loaded("copper 1\n"), -102)
        self.assertEqual(loaded("copper 1\n\n"), -103)
        self.assertEqual(loaded("copper 1\n\n "), -104)
        self.assertEqual(loaded("copper 1\ncore 2\n# outline\n"), -104)

    def test_last_line_feed_may_be_missing(self):
        self.assertEqual(loaded(STACK + OUTLINE), 0)
        self.assertEqual(loaded(STACK + OUTLINE[:-1]), 0)
        self.assertEqual(loaded(STACK + OUTLINE + "\n\n"), 0)
        self.assertEqual(loaded(STACK + OUTLINE + "x"), -103)
        self.assertEqual(loaded(STACK + OUTLINE + "x\n"), -103)

    def test_passed_over_lines_are_counted(self):
        self.assertEqual(loaded("\n   \n# a\n  #b c\n#\n" + STACK + "\n" + OUTLINE + "#"), 0)
        self.assertEqual(loaded("\n   \n# a\n  #b c\n#\nx\n"), -106)
        self.assertEqual(loaded("copper 1\n\n#\ncopper 1\n"), -104)

    def test_hash_counts_at_the_first_word_alone(self):
        self.assertEqual(loaded("copper 1 # thin\n" + OUTLINE), -101)
        self.assertEqual(loaded("copper #1\n" + OUTLINE), -101)
        self.assertEqual(loaded("copper# 1\n" + OUTLINE), -101)

    def test_blanks_part_words_any_number_of_them(self):
        self.assertEqual(printed("   copper    7  \n outline  0 0   9 0 9 9   "), "copper 7\n" + OUTLINE)

    def test_first_wrong_line_is_told(self):
        self.assertEqual(loaded("copper 0\nfoo\n"), -101)
        self.assertEqual(loaded(STACK + "foo\nbar\n" + OUTLINE), -102)
        self.assertEqual(loaded(STACK + OUTLINE + "cut\nkeep\n"), -103)

    def test_far_line(self):
        self.assertEqual(loaded("\n" * 3000 + "x"), -3101)

    def test_unknown_first_words(self):
        for word in ("Copper", "COPPER", "coppe", "coppers", "cores", "cuts", "keeps", "0", "-", "copper1"):
            with self.subTest(word):
                self.assertEqual(loaded(word + " 1\n" + OUTLINE), -101)


class WrongBytes(unittest.TestCase):
    def test_each_byte_on_a_line_of_its_own(self):
        for byte in range(256):
            answer = loaded(STACK.encode() + bytes([byte]) + b"\n" + OUTLINE.encode())
            with self.subTest(byte):
                self.assertEqual(answer, 0 if byte in (10, 32, 35) else -102)

    def test_each_byte_on_a_passed_over_line(self):
        for byte in range(256):
            answer = loaded(STACK.encode() + b"# a" + bytes([byte]) + b"\n" + OUTLINE.encode())
            with self.subTest(byte):
                self.assertEqual(answer, 0 if byte == 10 or 32 <= byte <= 126 else -102)

    def test_wrong_bytes_do_not_part_words(self):
        for byte in (0, 9, 11, 13, 31, 127, 128, 160, 255):
            with self.subTest(byte):
                self.assertEqual(loaded(b"copper" + bytes([byte]) + b"1\n" + OUTLINE.encode()), -101)
                self.assertEqual(loaded(b"copper 1" + bytes([byte]) + b"\n" + OUTLINE.encode()), -101)
                self.assertEqual(loaded(b"copper 1\n" + bytes([byte]) + OUTLINE.encode()), -102)

    def test_wrong_byte_on_a_line_of_blanks(self):
        self.assertEqual(loaded(b"  \t \n" + (STACK + OUTLINE).encode()), -101)
        self.assertEqual(loaded((STACK + OUTLINE).encode() + b" \r"), -103)

    def test_wrong_byte_is_told_behind_an_earlier_wrong_line(self):
        self.assertEqual(loaded(b"x\n\t\n"), -101)
        self.assertEqual(loaded(b"\t\nx\n"), -101)


class Numbers(unittest.TestCase):
    def keep_answer(self, word):
        return loaded(STACK + OUTLINE + "keep all 1 1 0 0 " + word)

    def test_numbers(self):
        for word in ("0", "1", "9", "10", "-1", "-9", "1000000000", "-1000000000", "123456789", "-987654321"):
            with self.subTest(word):
                self.assertEqual(self.keep_answer(word), 0)

    def test_no_numbers(self):
        wrong = ("-0", "00", "01", "-01", "+1", "1.0", "1e3", "1_0", "0x1", "-", "--1", "1-", "a", "/", ":", "1:", "/1")
        for word in wrong:
            with self.subTest(word):
                self.assertEqual(self.keep_answer(word), -103)

    def test_too_many_digits_and_out_of_range(self):
        for word in ("1000000001", "-1000000001", "9999999999", "10000000000", "-10000000000", "0000000001"):
            with self.subTest(word):
                self.assertEqual(self.keep_answer(word), -103)


class LongTexts(unittest.TestCase):
    def padded(self, count):
        text = list((STACK + OUTLINE).encode())
        return text + [32] * (count - len(text))

    def test_text_of_about_as_many_bytes_as_a_list_holds(self):
        self.assertEqual(loaded(self.padded(15997)), 0)

    def test_40000_bytes_and_one_more(self):
        # No list of calls is that long: the call itself is asked.
        places = [None, None]
        self.assertEqual(call_load(places, [0], self.padded(40000)), [0])
        self.assertIsNotNone(places[0])
        self.assertEqual(call_load(places, [1], self.padded(40001)), [-13])
        self.assertIsNone(places[1])

    def test_nearest_to_0(self):
        self.assertEqual(call_load([None, None], [0], [0] * 40001), [-13])
        self.assertEqual(call_load([None, None], [2], [0] * 40001), [-1])


class RefusedLoad(unittest.TestCase):
    def test_place(self):
        for place in (-1, 2, 3, 10 ** 18, -10 ** 18):
            with self.subTest(place):
                self.assertEqual(ask(load(place, SQUARE)), [[-1]])

    def test_place_and_wrong_text(self):
        self.assertEqual(ask(load(2, "x")), [[-1]])

    def test_place_keeps_its_board(self):
        answers = ask(load(1, SQUARE), printing(1), load(1, STACK + OUTLINE + "x"), printing(1))
        self.assertEqual(answers[2], [-103])
        self.assertEqual(answers[3], answers[1])

    def test_place_stays_empty(self):
        self.assertEqual(ask(load(0, "x"), printing(0)), [[-101], [-2]])

    def test_place_gets_another_board(self):
        answers = ask(load(0, FULL), load(0, SQUARE), printing(0))
        self.assertEqual(text_of(answers[2]), SQUARE)


if __name__ == "__main__":
    unittest.main()
