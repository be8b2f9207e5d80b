"""[21]: texts."""

import random
import unittest

from beadshares.dealings import dealing_error
from beadshares.errors import BadDealing, BadString, BadText
from beadshares.strings import String
from beadshares.texts import dealing_text, read_dealing, read_string, string_text
from tests import brute
from tests.samples import GREAT, LONG, NOTHING_RIGHT, SAMPLE, only_tuples

DEALING = ((3, 9), (0, 1, 0))
NO_STRINGS = [value for value in NOTHING_RIGHT if not isinstance(value, str)]


class TextCase(unittest.TestCase):
    def assert_bad_text(self, number, read, *given):
        with self.subTest(given=given), self.assertRaises(BadText) as caught:
            read(*given)
        found = caught.exception.number
        self.assertEqual((found, type(found)), (number, type(number)))


class StringTextTest(TextCase):
    def test_texts(self):
        self.assertEqual(string_text(SAMPLE), "4a 2b 2a 4b")
        self.assertEqual(string_text(String(((3, 1),))), "1d")
        self.assertEqual(string_text(String(((2, LONG), (1, 10)))), f"1{'0' * 30}c 10b")

    def test_what_is_told_is_read(self):
        for string in (SAMPLE, GREAT, *brute.SHORT):
            found = read_string(string_text(string))
            self.assertIsInstance(found, String)
            self.assertEqual(found.runs, string.runs)


class ReadStringTest(TextCase):
    def assert_bad(self, number, *values):
        for value in values:
            self.assert_bad_text(number, read_string, value)

    def assert_bad_string(self, number, word, value):
        with self.subTest(value=value), self.assertRaises(BadString) as caught:
            read_string(value)
        self.assertEqual((caught.exception.number, caught.exception.word), (number, word))

    def test_blanks(self):
        for text in ("4a 2b 2a 4b", " 4a  2b 2a 4b", "4a 2b 2a 4b ", "   4a   2b   2a   4b   "):
            self.assertEqual(read_string(text).runs, SAMPLE.runs)

    def test_no_string(self):
        self.assert_bad(None, *NO_STRINGS, b"4a", ["4a"], ("4a",), SAMPLE)

    def test_no_words(self):
        self.assert_bad(0, "", " ", "     ")

    def test_letters(self):
        for kind, letter in enumerate("abcd"):
            self.assertEqual(read_string(f"7{letter}").runs, ((kind, 7),))
        for letter in ("e", "A", "D", "0", "", "-", "\n", "aa", "ab", "`"):
            self.assert_bad(0, f"7{letter}")
            self.assert_bad(1, f"7b 7{letter}", f"7b 7{letter} 8c x")

    def test_digits(self):
        self.assertEqual(read_string(f"{LONG}a").runs, ((0, LONG),))
        self.assertEqual(read_string(f"{LONG - 1}d").runs, ((3, LONG - 1),))
        self.assert_bad(0, f"{LONG + 1}a", f"{LONG * 2}a", f"{'9' * 31}a", f"{LONG * 10}a", f"{'1' * 1999}a")
        self.assert_bad(0, "0a", "00a", "01a", f"0{LONG}a", "a", "-1a", "+1a", "1_0a", "1.a", "1e3a", "0x1a",
                        "1,000a", "(1)a", "a1", "1a1", "four", "4 a", "#a")
        self.assert_bad(1, "5b 0a", "5b a", "5b 01a", f"5b {LONG + 1}c")

    def test_line_feeds(self):
        self.assert_bad(0, "\n", "4a\n", "\n4a", "4a\n2b", "4\na", "4a\n 2b", "\n 4a")
        self.assert_bad(1, "4a \n", "4a 2b\n", "4a \n2b", "4a \n 2b")

    def test_the_seventh_word(self):
        six = "1a 1b 1c 1d 1a 1b"
        self.assertEqual(len(read_string(six)), 6)
        self.assert_bad(6, f"{six} 1c", f"{six} x", f"{six} 1c 1d x", f"{six} 1b", f"{six} \n")
        self.assert_bad(2, "1a 1b x 1d 1a 1b 1c")
        self.assert_bad(5, "1a 1b 1c 1d 1a x 1c")
        self.assert_bad(6, "1a 1a 1a 1a 1a 1a 1a")

    def test_the_first_wrong_word(self):
        self.assert_bad(0, "x y", "x 4a y")
        self.assert_bad(1, "4a y", "4a y z", " 4a   y   z ")
        self.assert_bad(3, "4a 2b 2a 4e")

    def test_a_kind_twice_side_by_side(self):
        self.assert_bad_string(1, "same", "4a 2a")
        self.assert_bad_string(3, "same", "4a 2b 1c 1c 1c")
        self.assert_bad(2, "4a 4a x")

    def test_texts_of_any_signs(self):
        pick = random.Random(11)
        for _ in range(2000):
            text = "".join(pick.choices("  14ab0d\nx", k=pick.randint(0, 9)))
            words = [word for word in text.split(" ") if word]
            wrong = [at for at, word in enumerate(words) if at == 6 or not (
                word[-1] in "abcd" and word[:-1].isdecimal() and word[0] != "0")]
            if wrong or not words:
                self.assert_bad(wrong[0] if wrong else 0, text)
                continue
            runs = tuple(("abcd".index(word[-1]), int(word[:-1])) for word in words)
            same = [at for at in range(1, len(runs)) if runs[at][0] == runs[at - 1][0]]
            if same:
                self.assert_bad_string(same[0], "same", text)
            else:
                self.assertEqual(read_string(text).runs, runs)


class DealingTextTest(TextCase):
    def test_texts(self):
        self.assertEqual(dealing_text(DEALING), "3 9 to 0 1 0")
        self.assertEqual(dealing_text(((), (0,))), "to 0")
        self.assertEqual(dealing_text(((), (2,))), "to 2")
        self.assertEqual(dealing_text(((1, 5 * LONG), (2, 0, 1))), f"1 5{'0' * 30} to 2 0 1")

    def test_what_is_told_is_read(self):
        for string in brute.SHORT:
            for many in (2, 3):
                for dealing in brute.dealings(string, many, 2) + brute.dealings(string, many, 0):
                    self.assertEqual(read_dealing(string, many, dealing_text(dealing)), dealing)
        dealing = ((1, LONG, 5 * LONG, 6 * LONG - 1), (0, 1, 0, 2, 1))
        self.assertEqual(read_dealing(GREAT, 3, dealing_text(dealing)), dealing)


class ReadDealingTest(TextCase):
    def assert_bad(self, number, *values):
        for value in values:
            for many in (2, 3):
                self.assert_bad_text(number, read_dealing, SAMPLE, many, value)

    def assert_bad_dealing(self, word, *values, many=2):
        for value in values:
            with self.subTest(value=value), self.assertRaises(BadDealing) as caught:
                read_dealing(SAMPLE, many, value)
            self.assertEqual(caught.exception.word, word)

    def test_dealings(self):
        for text in ("3 9 to 0 1 0", " 3 9 to 0 1 0 ", "3   9  to   0 1    0", "   3 9 to 0 1 0"):
            found = read_dealing(SAMPLE, 2, text)
            self.assertEqual(found, DEALING)
            self.assertTrue(only_tuples(found))
        self.assertEqual(read_dealing(SAMPLE, 2, "to 0"), ((), (0,)))
        self.assertEqual(read_dealing(SAMPLE, 3, " to  2"), ((), (2,)))
        self.assertEqual(read_dealing(SAMPLE, 3, "1 2 3 11 to 0 1 2 0 1"), ((1, 2, 3, 11), (0, 1, 2, 0, 1)))

    def test_no_string(self):
        self.assert_bad(None, *NO_STRINGS, DEALING, ["to", "0"], b"to 0")

    def test_to_is_lacking(self):
        self.assert_bad(0, "", " ", "    ")
        self.assert_bad(1, "3", " 0 ", "9" * 32)
        self.assert_bad(2, "3 9", "9 3")
        self.assert_bad(5, "3 9 0 1 0")
        self.assert_bad(7, "1 2 3 4 5 6 7")

    def test_to_alone(self):
        self.assert_bad_dealing("takers", "to", " to ", "3 to", "3 9 to")

    def test_to_twice(self):
        self.assert_bad(3, "3 9 to to 0 1 0")
        self.assert_bad(1, "to to 0", "to to")
        self.assert_bad(6, "3 9 to 0 1 0 to")
        self.assert_bad(4, "3 9 to 0 to 1 0")

    def test_words_that_are_nearly_to(self):
        self.assert_bad(2, "3 9 To 0 1 0", "3 9 TO 0 1 0", "3 9 to, 0 1 0", "3 9 t o 0 1 0", "3 9 to\n 0 1 0",
                        "3 9 \nto 0 1 0", "3 9 too 0 1 0", "3 9 to0 1 0")
        self.assert_bad(1, "3 9to 0 1 0")

    def test_cuts(self):
        self.assert_bad(0, "03 9 to 0 1 0", "00 9 to 0 1 0", "-3 9 to 0 1 0", "+3 9 to 0 1 0", "3a 9 to 0 1 0",
                        "3\n 9 to 0 1 0", "\n3 9 to 0 1 0", "3_0 9 to 0 1 0", "x", "3, 9 to 0 1 0", "three to 0 1")
        self.assert_bad(1, "3 09 to 0 1 0", "3 x 9 to 0", "3 \n 9 to 0 1 0", "3 -9")
        self.assert_bad(0, f"{'1' * 33} to 0 1", f"{'1' * 1000} to 0 1", "0" * 32, f"0{'1' * 31} to 0 1")
        self.assert_bad_dealing("cuts", f"{'1' * 32} to 0 1", f"{'9' * 31} to 0 1", f"{'9' * 32} to 0 1")

    def test_cuts_that_are_none_of_the_string(self):
        self.assert_bad_dealing("cuts", "0 to 0 1", "12 to 0 1", "9 3 to 0 1 0", "3 3 to 0 1 0",
                                "1 2 3 4 5 to 0 1 0 1 0 1", "0 to", "12 to 9 9")

    def test_takers(self):
        self.assert_bad(3, "3 9 to 00 1 0", "3 9 to 10 1 0", "3 9 to a 1 0", "3 9 to -0 1 0", "3 9 to \n 1 0",
                        "3 9 to 01 0", "3 9 to 0\n 1 0", "3 9 to 0,1,0")
        self.assert_bad(5, "3 9 to 0 1 x", "3 9 to 0 1 0x", "3 9 to 0 1 10", "3 9 to 0 1 0\n")
        self.assert_bad(1, "to x", "to 10", "to -1")

    def test_takers_that_are_none_of_the_dealing(self):
        self.assert_bad_dealing("takers", "3 9 to 0 1", "3 9 to 0 1 0 1", "3 9 to 0 0 1", "3 9 to 0 1 2",
                                "3 9 to 0 1 9", "to 2", "to 9", "to 0 1")
        self.assert_bad_dealing("takers", "3 9 to 0 1 3", "to 3", "to 0 0", many=3)
        self.assertEqual(read_dealing(SAMPLE, 3, "3 9 to 0 1 2"), ((3, 9), (0, 1, 2)))

    def test_the_first_of_several_errors(self):
        self.assert_bad(0, "x y to z", "x 9")
        self.assert_bad(1, "3 y to z")
        self.assert_bad(3, "3 9 to z 9 9 9", "9 3 to z")
        self.assert_bad_dealing("cuts", "9 3 to 0 0 0", "13 to 7")

    def test_texts_of_any_signs(self):
        pick = random.Random(12)
        told = 0
        for _ in range(4000):
            words = pick.choices(["3", "9", "0", "11", "to", "1", "2", "x", "01", "to", "\n"],
                                 [5, 5, 5, 2, 5, 5, 2, 1, 1, 2, 1], k=pick.randint(0, 7))
            text = " ".join(words)
            at = words.index("to") if "to" in words else len(words)
            wrong = [number for number, word in enumerate(words) if number != at and (
                not word.isdecimal() or (number > at and len(word) > 1) or word == "01")]
            if wrong or at == len(words):
                self.assert_bad(wrong[0] if wrong else at, text)
                continue
            value = tuple(map(int, words[:at])), tuple(map(int, words[at + 1:]))
            fault = dealing_error(SAMPLE, 2, value)
            if fault is None:
                self.assertEqual(read_dealing(SAMPLE, 2, text), value)
                told += 1
            else:
                self.assert_bad_dealing(fault, text)
        self.assertGreater(told, 20)


if __name__ == "__main__":
    unittest.main()
