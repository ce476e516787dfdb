"""Names: texts of 1 to 8 small letters."""

import string
import unittest

from darkthread.house import is_name

# A capital letter, figures, blanks, signs, line ends, and letters beyond a to z, also small ones.
OTHER_SIGNS = ("A", "Z", "0", "9", " ", "-", "_", ".", "\n", "\r", "\t", "\0", "`", "{", "@", "[",
               "\u00e4", "\u00df", "\u00e9", "\u03b1", "\u0430", "\uff41", "\u00aa", "\u017f", "\U0001d41a")


class Names(unittest.TestCase):
    def check(self, text, expected):
        with self.subTest(text=text):
            self.assertIs(is_name(text), expected)

    def test_none_to_ten_letters(self):
        for many in range(11):
            self.check("abcdefghij"[:many], 1 <= many <= 8)
            self.check("z" * many, 1 <= many <= 8)

    def test_empty_text(self):
        self.check("", False)

    def test_eight_and_nine_letters(self):
        self.check("staircas", True)
        self.check("staircase", False)

    def test_every_small_letter(self):
        for letter in string.ascii_lowercase:
            self.check(letter, True)
            self.check("hall" + letter, True)

    def test_every_other_sign_of_one_byte(self):
        for number in range(256):
            sign = chr(number)
            self.check(sign, sign in string.ascii_lowercase)

    def test_other_sign_first_last_and_between(self):
        for sign in OTHER_SIGNS:
            for text in (sign, sign + "hall", "hall" + sign, "ha" + sign + "ll",
                         sign + "b", "b" + sign, sign + "bcdefgh", "bcdefgh" + sign, "bcd" + sign + "fgh", sign * 3):
                self.check(text, False)

    def test_long_texts(self):
        self.check("a" * 100000, False)
        self.check("A" * 9, False)


if __name__ == "__main__":
    unittest.main()
