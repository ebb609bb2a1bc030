"""Promise 3, and of promise 2 what a whole number is."""

import string
import unittest

from farjump.words import is_whole, is_word

SIGNS = [chr(code) for code in range(32, 127)] + ["\n"]
NO_SMALL_LETTERS = [sign for sign in SIGNS if sign not in string.ascii_lowercase]
NO_TEXTS = [None, True, False, 0, 1, -7, 1.5, b"abc", [], ["a"], ["abc"], (), ("a",), {}, {"a": 1}, {"a"}, object(), str]


class Words(unittest.TestCase):
    def test_lengths_of_one_to_eight(self):
        for length in range(0, 20):
            with self.subTest(length):
                self.assertIs(is_word("a" * length), 1 <= length <= 8)
                self.assertIs(is_word("z" * length), 1 <= length <= 8)

    def test_each_small_letter(self):
        for letter in string.ascii_lowercase:
            with self.subTest(letter):
                self.assertIs(is_word(letter), True)
                self.assertIs(is_word("ab" + letter + "yz"), True)
                self.assertIs(is_word(letter * 8), True)

    def test_each_other_sign_at_each_place(self):
        self.assertEqual(len(NO_SMALL_LETTERS), 95 - 26 + 1)
        for sign in NO_SMALL_LETTERS:
            for text in (sign, sign + "bc", "a" + sign + "c", "ab" + sign, sign * 8,
                         sign + "bcdefgh", "abc" + sign + "efgh", "abcdefg" + sign):
                with self.subTest(text):
                    self.assertIs(is_word(text), False)

    def test_great_letters(self):
        for text in ("A", "Z", "Abc", "aBc", "abC", "ABC"):
            with self.subTest(text):
                self.assertIs(is_word(text), False)

    def test_letters_of_other_alphabets(self):
        for text in ("\u00e9", "stra\u00dfe", "\u03b1", "\uff41"):
            with self.subTest(text):
                self.assertIs(is_word(text), False)

    def test_what_is_no_text(self):
        for thing in NO_TEXTS:
            with self.subTest(repr(thing)):
                self.assertIs(is_word(thing), False)


class WholeNumbers(unittest.TestCase):
    def test_ints_are_whole_numbers(self):
        for number in (0, 1, -1, 2 ** 31, -(10 ** 60)):
            with self.subTest(number):
                self.assertIs(is_whole(number), True)

    def test_truths_and_other_things_are_none(self):
        for thing in (True, False, None, 1.0, "1", [1], (1,)):
            with self.subTest(repr(thing)):
                self.assertIs(is_whole(thing), False)


if __name__ == "__main__":
    unittest.main()
