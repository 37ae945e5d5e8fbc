"""Tests of oneshard.naming: point 3."""

import unittest

from oneshard.naming import valid_name

LETTERS = "abcdefghijklmnopqrstuvwxyz"
DIGITS = "0123456789"
# The characters that callers may use in a string.
CHARACTERS = "".join(chr(code) for code in range(32, 127) if chr(code) != "%") + "\n"


class ValidName(unittest.TestCase):
    def accept(self, *texts):
        for text in texts:
            self.assertIs(valid_name(text), True, repr(text))

    def reject(self, *texts):
        for text in texts:
            self.assertIs(valid_name(text), False, repr(text))

    def test_example(self):
        self.assertEqual([valid_name("x1"), valid_name("mod"), valid_name("1x")], [True, False, False])

    def test_lengths(self):
        self.accept("a", "ab", "abc", "abcd", "abcde", "abcdef")
        self.accept("z9", "z99", "z999", "z9999", "z99999")
        self.reject("", "abcdefg", "abcdefgh", "z999999", "z9999999", "a" * 100)

    def test_every_first_character(self):
        for character in CHARACTERS:
            expected = character in LETTERS
            for rest in ["", "b", "2", "bcdef", "23456"]:
                self.assertIs(valid_name(character + rest), expected, repr(character + rest))

    def test_every_later_character_at_every_place(self):
        for character in CHARACTERS:
            expected = character in LETTERS + DIGITS
            for length in range(2, 7):
                for place in range(1, length):
                    text = "q" * place + character + "r" * (length - place - 1)
                    self.assertIs(valid_name(text), expected, repr(text))

    def test_first_character_is_no_digit_and_no_capital(self):
        self.reject("0", "9", "1x", "7abc", "A", "Z", "Xy", "Abcdef")

    def test_other_characters(self):
        self.reject("x_1", "_x", "x-y", "x y", " x", "x ", "xY", "x*", "a.b", "abcde_", "abcdeZ")

    def test_newlines(self):
        self.reject("\n", "x\n", "\nx", "x\ny", "abcde\n", "abcdef\n", "mod\n")

    def test_mod_and_its_neighbours(self):
        self.reject("mod", "Mod", "MOD", "mod ", " mod", "mod\n")
        self.accept("m", "mo", "mod1", "mod0", "amod", "modd", "mods", "mode", "mof", "nod", "mad", "od", "do")

    def test_other_alphabets_are_no_names(self):
        self.reject("\u00e4", "x\u00e9", "x\u0663", "x\u00b2", "\u03b1")


if __name__ == "__main__":
    unittest.main()
