"""The refusals: base classes, fields and words."""

import unittest

from darkthread import errors

NAMED = ("BadName", "Taken", "Leans")
NUMBERED = {"BadNumber": "asked", "NotAWalk": "at", "Broken": "at", "TooGreat": "many", "BadText": "row"}
PLAIN = ("Full", "Loop", "NoDoor", "NoSight", "BadRound", "Bare", "BadDeed", "BadAsking")
MISSING = ("NoRoom", "NoPost", "NoWatcher", "NoWatch")

DARK = NAMED + tuple(NUMBERED) + PLAIN
ALL = ("DarkError",) + DARK + ("Missing",) + MISSING + ("Nothing",)
FIELDS = ("name", "asked", "at", "many", "row")


def class_of(word):
    return getattr(errors, word)


def made(word):
    """A refusal of each kind, made as the interface tells."""
    if word in NAMED + MISSING:
        return class_of(word)("hall")
    if word in NUMBERED:
        return class_of(word)(17)
    return class_of(word)()


class BaseClasses(unittest.TestCase):
    def test_straight_base_class(self):
        bases = {word: errors.DarkError for word in DARK}
        bases.update({word: errors.Missing for word in MISSING})
        bases.update({"DarkError": ValueError, "Missing": LookupError, "Nothing": IndexError})
        self.assertEqual(set(bases), set(ALL))
        for word, base in bases.items():
            with self.subTest(word=word):
                self.assertEqual(class_of(word).__bases__, (base,))

    def test_under_none_of_the_others(self):
        above = {word: {"DarkError"} for word in DARK}
        above.update({word: {"Missing"} for word in MISSING})
        for word in ALL:
            for other in ALL:
                with self.subTest(word=word, other=other):
                    is_under = other == word or other in above.get(word, set())
                    self.assertEqual(issubclass(class_of(word), class_of(other)), is_under)

    def test_of_pythons_own_errors(self):
        for word in ALL:
            with self.subTest(word=word):
                dark = word == "DarkError" or word in DARK
                self.assertEqual(issubclass(class_of(word), ValueError), dark)
                self.assertEqual(issubclass(class_of(word), LookupError), not dark)
                self.assertEqual(issubclass(class_of(word), IndexError), word == "Nothing")
                self.assertFalse(issubclass(class_of(word), KeyError))

    def test_each_class_is_its_own(self):
        self.assertEqual(len({class_of(word) for word in ALL}), 23)

    def test_no_other_refusal(self):
        found = {name for name, value in vars(errors).items() if isinstance(value, type)}
        self.assertEqual(found, set(ALL))

    def test_defined_here_by_its_own_name(self):
        for word in ALL:
            with self.subTest(word=word):
                self.assertEqual(class_of(word).__name__, word)
                self.assertEqual(class_of(word).__module__, "darkthread.errors")


class Fields(unittest.TestCase):
    def check_fields(self, refusal, field, value):
        for name in FIELDS:
            if name == field:
                self.assertEqual(getattr(refusal, name), value)
                self.assertIs(type(getattr(refusal, name)), type(value))
            else:
                self.assertFalse(hasattr(refusal, name), name)

    def test_made_with_a_name(self):
        for word in NAMED + MISSING:
            for name in ("hall", "", "No Name", "x" * 40, "{", "\n"):
                with self.subTest(word=word, name=name):
                    self.check_fields(class_of(word)(name), "name", name)

    def test_made_with_a_number(self):
        for word, field in NUMBERED.items():
            for number in (0, 1, -1, 5, 10 ** 9 + 1, -(10 ** 30)):
                with self.subTest(word=word, number=number):
                    self.check_fields(class_of(word)(number), field, number)

    def test_made_with_nothing(self):
        for word in PLAIN + ("Nothing",):
            with self.subTest(word=word):
                self.check_fields(class_of(word)(), None, None)

    def test_one_argument_or_none(self):
        for word in NAMED + tuple(NUMBERED) + MISSING:
            with self.subTest(word=word), self.assertRaises(TypeError):
                class_of(word)()
        for word in PLAIN:
            with self.subTest(word=word), self.assertRaises(TypeError):
                class_of(word)("hall")


class Words(unittest.TestCase):
    def test_word_is_the_name_of_the_class(self):
        for word in ALL:
            with self.subTest(word=word):
                refusal = made(word)
                self.assertEqual(refusal.word, word)
                self.assertIs(type(refusal.word), str)

    def test_word_is_set_on_each_object(self):
        for word in ALL:
            with self.subTest(word=word):
                self.assertIn("word", vars(made(word)))

    def test_two_of_a_kind_keep_their_own_fields(self):
        first, second = errors.NoRoom("hall"), errors.NoRoom("attic")
        self.assertEqual((first.name, second.name), ("hall", "attic"))

    def test_raised_and_caught(self):
        for word in ALL:
            with self.subTest(word=word), self.assertRaises(class_of(word)) as caught:
                raise made(word)
            self.assertEqual(caught.exception.word, word)

    def test_message_tells_something(self):
        for word in ALL:
            with self.subTest(word=word):
                self.assertTrue(str(made(word)))


if __name__ == "__main__":
    unittest.main()
