import itertools
import re
import unittest

from kinds import NO_STRINGS
from unnamedlives.words import RESERVED, is_name


class ReservedTest(unittest.TestCase):
    def test_the_words_in_order(self):
        self.assertEqual(
            RESERVED,
            ("fun", "out", "use", "val", "ref", "set", "block", "if", "else", "loop", "end",
             "part", "pick", "then", "dead"),
        )
        self.assertIs(type(RESERVED), tuple)


class NameTest(unittest.TestCase):
    def check(self, text, expected):
        with self.subTest(text=repr(text)):
            self.assertIs(is_name(text), expected)

    def test_names(self):
        for text in ["a", "z", "x", "n1", "a0", "z9", "copy", "new", "mix", "abcdefgh", "a1234567", "items"]:
            self.check(text, True)

    def test_lengths(self):
        self.check("", False)
        for length in range(1, 9):
            self.check("q" * length, True)
        for length in [9, 10, 16, 100, 100000]:
            self.check("q" * length, False)

    def test_the_first_character_is_a_letter(self):
        for text in ["0", "9", "1a", "0abcdefg", "12345678"]:
            self.check(text, False)

    def test_every_character(self):
        letters = "abcdefghijklmnopqrstuvwxyz"
        for code in list(range(0, 600)) + [0x131, 0x660, 0x3b1, 0x2170, 0xff11, 0xff41, 0x1d41a, 0x1d7ce]:
            sign = chr(code)
            self.check(sign, sign in letters)
            for text in [f"a{sign}", f"a{sign}b", f"abcdefg{sign}"]:
                self.check(text, sign in letters + "0123456789")

    def test_reserved_words(self):
        for word in RESERVED:
            self.check(word, False)
            for sign in ["a", "z", "0", "9", "s"]:
                self.check(word + sign, True)
            self.check("a" + word, True)
            self.check(word[:-1], True)
            self.check(word.upper(), False)
            self.check(word + " ", False)
            self.check(word + "\n", False)
            self.check("1" + word, False)

    def test_a_part_of_a_list_of_words_is_not_reserved(self):
        for text in ["u", "fu", "un", "e", "s", "funout", "i", "f", "ifelse", "de", "ad"]:
            self.check(text, True)

    def test_white_space(self):
        for text in [" ", "\n", "a ", " a", "a\n", "\na", "a b", "a\tb", "a\r", "abcdefgh\n"]:
            self.check(text, False)

    def test_signs(self):
        for text in ["x_", "_x", "a-b", "a.b", "1.0", "f()", "A", "aB", "x,", "(x)", "a'"]:
            self.check(text, False)

    def test_all_short_texts(self):
        pattern = re.compile(r"[a-z][a-z0-9]*")
        for length in range(1, 4):
            for signs in itertools.product("aif0_ N", repeat=length):
                text = "".join(signs)
                self.check(text, bool(pattern.fullmatch(text)) and text != "if")

    def test_arguments_of_every_kind(self):
        for thing in NO_STRINGS:
            with self.subTest(kind=type(thing)):
                self.assertIs(is_name(thing), False)


if __name__ == "__main__":
    unittest.main()
