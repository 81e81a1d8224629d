"""Rows written as texts and read back [1, 28]."""

import random
import unittest

from sumplace.errors import NoText
from sumplace.notes import read_row, show_row
from sumplace.rows import is_row
from tests.helpers import drawn_row, refuses, small_rows


class TestNotes(unittest.TestCase):
    def check(self, row, text):
        before = list(row)
        told = show_row(row)
        self.assertIs(type(told), str)
        self.assertEqual(told, text)
        self.assertEqual(row, before)
        back = read_row(text)
        self.assertIs(type(back), list)
        self.assertIs(is_row(back), True)
        self.assertEqual(back, row)
        self.assertIsNot(back, row)

    def test_told_texts(self):
        self.check([1, 4, 4], "1 4 4")
        self.check([-12, -3, -3, 0, 7], "-12 -3 -3 0 7")

    def test_a_row_of_none(self):
        self.check([], "-")

    def test_rows_of_one_number(self):
        for number in (-10 ** 15, -10, -1, 0, 1, 9, 10, 10 ** 15):
            self.check([number], str(number))

    def test_every_small_row(self):
        for row in small_rows(4):
            self.check(row, " ".join(str(number) for number in row) or "-")

    def test_sixteen_figures_and_no_more(self):
        most = 10 ** 16 - 1
        self.check([-most, most], "-9999999999999999 9999999999999999")
        self.check([-10 ** 15, 10 ** 15], "-1000000000000000 1000000000000000")
        refuses(self, read_row, ["10000000000000000", "-10000000000000000", "1" * 17, "0 " + "9" * 17], NoText)
        refuses(self, read_row, ["9" * 6000, "-" + "9" * 5999, "1 " + "9" * 5000], NoText)

    def test_thirty_figures_are_written(self):
        self.assertEqual(show_row([-10 ** 29, 10 ** 29]), "-1" + "0" * 29 + " 1" + "0" * 29)

    def test_drawn_rows(self):
        chance = random.Random(39)
        for many in (2, 50, 300):
            for spread in (1, 100, 10 ** 15):
                row = drawn_row(chance, many, spread)
                self.check(row, " ".join(str(number) for number in row))

    def test_a_text_of_six_thousand_signs(self):
        self.check([7] * 3000, " ".join(["7"] * 3000))

    def test_blanks_that_part_nothing(self):
        refuses(self, read_row, ["", " ", "  ", " 1", "1 ", "1  2", " 1 2", "1 2 ", "1   2", " -", "- ", " - "], NoText)

    def test_texts_of_one_number_written_otherwise(self):
        texts = ["01", "00", "-0", "-00", "-01", "+1", "--1", "-", "1-", "1-2", "1.0", "1e3", "1_000", "1,000", "0x1"]
        refuses(self, read_row, [text for text in texts if text != "-"], NoText)
        refuses(self, read_row, ["1 " + text for text in texts], NoText)
        refuses(self, read_row, [text + " 9" for text in texts], NoText)

    def test_sorted_numbers_alone(self):
        refuses(self, read_row, ["2 1", "1 2 1", "0 -1", "-1 -2", "1 1 0", "10 9", "5 5 4 5"], NoText)

    def test_other_signs(self):
        texts = ["a", "one", "1 a", "a 1", "[]", "[1, 2]", "1, 2", "1;2", "None", "1/2", "1~2", "~", "!"]
        texts += ["\n", "1\n", "\n1", "1\n2", "1 \n2", "1\n 2", "-\n", "\n-", "1 2\n", "1 \n", " \n "]
        texts += ["--", "- -", "-1-", "1 - 2", "- 1"]
        refuses(self, read_row, texts, NoText)

    def test_each_sign_in_each_place(self):
        for sign in [chr(at) for at in range(32, 127)] + ["\n"]:
            for text in (sign, "1" + sign, sign + "1", "1 " + sign, sign + " 1", "1" + sign + "2", "1 " + sign + "2"):
                with self.subTest(text=text):
                    try:
                        self.assertEqual(show_row(read_row(text)), text)
                    except NoText:
                        self.assertFalse(set(text) <= set("123456789"))

    def test_what_is_read_is_just_what_is_written(self):
        chance = random.Random(40)
        read = 0
        for _ in range(20000):
            text = "".join(chance.choice("0129- ") for _ in range(chance.randrange(7)))
            words = text.split(" ")
            try:
                numbers = [int(word) for word in words]
                should = [str(number) for number in numbers] == words and numbers == sorted(numbers) or text == "-"
            except ValueError:
                should = text == "-"
            if should:
                read += 1
                self.assertEqual(show_row(read_row(text)), text)
            else:
                refuses(self, read_row, [text], NoText)
        self.assertGreater(read, 1000)

    def test_the_row_told_is_the_askers_own(self):
        for text in ("-", "1 2"):
            read_row(text).append(9)
            self.assertEqual(show_row(read_row(text)), text)


if __name__ == "__main__":
    unittest.main()
