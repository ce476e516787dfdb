"""How tests look at what is equal."""

import unittest


class Comparing(unittest.TestCase):
    def check(self, first, second, equal):
        """Both are equal or unlike, whichever stands first, by both signs."""
        for one, other in ((first, second), (second, first)):
            self.assertIs(one == other, equal)
            self.assertIs(one != other, not equal)
