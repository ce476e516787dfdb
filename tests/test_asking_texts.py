"""Askings as texts, there and back, and how what they come to is shown."""

import unittest

from darkthread.askings import asking_text, read_asking, shown
from darkthread.errors import BadText
from tests.refusing import Refusing
from tests.texts import NUMBERS, askings, bent_signs, is_written


class ThereAndBack(unittest.TestCase):
    def test_written_and_read(self):
        for asking in askings():
            text = asking_text(asking)
            self.assertEqual(text, " ".join(map(str, asking)))
            found = read_asking(text)
            self.assertEqual(found, asking)
            self.assertEqual([type(found), *map(type, found)], [tuple, *map(type, asking)])
            self.assertEqual(asking_text(asking=asking), text)
            self.assertEqual(read_asking(text=text), asking)

    def test_by_hand(self):
        self.assertEqual(asking_text(("way", "hall", "attic", -4)), "way hall attic -4")
        self.assertEqual(asking_text(("wheel",)), "wheel")
        self.assertEqual(read_asking("way hall attic"), ("way", "hall", "attic"))
        self.assertEqual(read_asking("lit -9999999999"), ("lit", -9999999999))
        self.assertEqual(read_asking("lit 0"), ("lit", 0))
        self.assertEqual(read_asking("meets way way"), ("meets", "way", "way"))


class BadTexts(Refusing):
    def check_bad(self, *texts):
        for text in texts:
            self.check_refused(BadText, 0, read_asking, text)

    def test_blanks(self):
        for text in ("way hall attic -4", "wheel", "lit 3", "meets p q"):
            self.check_bad(" " + text, text + " ", text.replace(" ", "  ") if " " in text else "  " + text,
                           text + "\n", "\n" + text, text.replace(" ", "\n") if " " in text else "\t" + text)
        self.check_bad("", " ", "  ", "\n")

    def test_numbers(self):
        for word in ("00", "01", "-0", "-01", "007", "+1", "--1", "-", "1-", "1.0", "1e3", "0x1", "1_0", "1,0", "one",
                     "10000000000", "-10000000000", "99999999999", "00000000001", "1 ", "1x", "x", "\u0661", "\u00b2",
                     "1\n", ""):
            self.check_bad(f"lit {word}", f"where p {word}", f"way a b {word}")

    def test_names(self):
        for word in ("", "Hall", "hall2", "ninesigns", "ha-ll", "ha,ll", "3", "-", "h\u00e4ll", "hall\n", "ha%ll"):
            self.check_bad(f"where {word} 3", f"meets a {word}", f"meets {word} a", f"way {word} b 3",
                           f"linger {word} 3")

    def test_words_and_counts(self):
        self.check_bad("wheels", "Wheel", "wheel 3", "wheel a", "where", "where p", "where p 3 3", "where 3 p",
                       "who p q", "lit", "lit a", "lit 3 3", "meets", "meets a", "meets a 3", "meets a b c", "way",
                       "way a", "way a 3", "way a b c", "way a b 3 4", "linger", "linger a", "linger a b", "linger 3",
                       "room hall", "ask wheel", "undo", "notes", "where,p,3", "none")

    def test_a_sign_bent(self):
        read = 0
        for text in ("way hall attic -4", "wheel", "lit 30", "meets p q", "where upstairs 1234567890", "linger a 0",
                     "who p -1", "way a b"):
            for other in bent_signs(text, " a0-9,Z+\n_.\t"):
                if is_written(other):
                    self.assertEqual(asking_text(read_asking(other)), other)
                    read += 1
                else:
                    self.check_bad(other)
        self.assertGreater(read, 50)


class Shown(unittest.TestCase):
    def test_texts_as_they_are(self):
        for text in ("hall", "seen", "ever", "no NoPost", "no Bare", "zoe"):
            self.assertEqual(shown(text), text)

    def test_numbers_plainly(self):
        for number in NUMBERS + (1440, -1440):
            self.assertEqual(shown(number), str(number))

    def test_none_and_tuples(self):
        self.assertEqual(shown(None), "none")
        self.assertEqual(shown(()), "none")
        self.assertEqual(shown(("hall",)), "hall")
        self.assertEqual(shown(("hall", "attic", "den")), "hall attic den")
        self.assertEqual(shown((0,)), "0")
        self.assertEqual(shown((0, 3, 10)), "0 3 10")
        self.assertEqual(shown(told=("hall", "attic")), "hall attic")


if __name__ == "__main__":
    unittest.main()
