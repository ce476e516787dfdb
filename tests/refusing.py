"""How tests look at refusals."""

import unittest

FAR = 10 ** 9
BEYOND = (FAR + 1, -FAR - 1, FAR + 7, -(10 ** 12), 10 ** 30)
STRANGERS = ("shed", "", "Hall", "hal", "halls", "hall ")

FIELDS = {"BadName": "name", "Taken": "name", "Leans": "name", "NoRoom": "name", "NoPost": "name",
          "NoWatcher": "name", "NoWatch": "name", "BadNumber": "asked", "NotAWalk": "at", "Broken": "at",
          "TooGreat": "many", "BadText": "row"}


class Refusing(unittest.TestCase):
    def check_refused(self, kind, value, ask, *handed, **named):
        """Asking is refused with this very class, whose field, if it has one, is the value."""
        with self.subTest(handed=handed, named=named):
            with self.assertRaises(kind) as caught:
                ask(*handed, **named)
            self.assertIs(type(caught.exception), kind)
            self.assertEqual(caught.exception.word, kind.__name__)
            if kind.__name__ in FIELDS:
                self.assertEqual(getattr(caught.exception, FIELDS[kind.__name__]), value)
