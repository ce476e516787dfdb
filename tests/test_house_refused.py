"""Houses that are refused: which refusal goes, with its field."""

import itertools
import string
import unittest

from darkthread.errors import BadName, Full, Loop, NoRoom, Taken
from darkthread.house import House

NINE = tuple(string.ascii_lowercase[:9])
BAD_NAMES = ("", "Hall", "hall2", "a b", "a-b", "staircase", "hall\n", "\u00e4")


class Refused(unittest.TestCase):
    def check(self, kind, name, *parts):
        """The refusal for these parts, the same by lists and by names of the arguments."""
        lists = [list(part) for part in parts]
        named = dict(zip(("rooms", "doors", "sights"), parts))
        for make in (lambda: House(*parts), lambda: House(*lists), lambda: House(**named)):
            with self.subTest(parts=parts), self.assertRaises(kind) as caught:
                make()
            self.assertIs(type(caught.exception), kind)
            self.assertEqual(caught.exception.word, kind.__name__)
            if name is not None:
                self.assertEqual(caught.exception.name, name)
        self.assertEqual(lists, [list(part) for part in parts])


class Rooms(Refused):
    def test_more_than_eight(self):
        House(NINE[:8])
        self.check(Full, None, NINE)
        self.check(Full, None, NINE + ("j", "k"))
        self.check(Full, None, tuple(string.ascii_lowercase))

    def test_bad_name(self):
        for name in BAD_NAMES:
            self.check(BadName, name, (name,))
            self.check(BadName, name, ("a", name, "b"))
            self.check(BadName, name, NINE[:7] + (name,))

    def test_name_twice(self):
        self.check(Taken, "a", ("a", "a"))
        self.check(Taken, "hall", ("hall", "b", "hall"))
        self.check(Taken, "b", ("a", "b", "c", "d", "e", "f", "g", "b"))

    def test_the_first_of_several(self):
        self.check(BadName, "B", ("a", "B", "C", "a"))
        self.check(Taken, "a", ("a", "a", "B"))
        self.check(BadName, "B", ("a", "B", "a", "B"))
        self.check(Taken, "b", ("a", "b", "b", "a"))
        self.check(BadName, "A", ("A", "A"))

    def test_full_ahead_of_all_else(self):
        self.check(Full, None, ("A",) + NINE[:8])
        self.check(Full, None, ("a", "a") + NINE[1:8])
        self.check(Full, None, ("a",) * 9)
        self.check(Full, None, NINE, (("x", "y"),), (("a", "a"),))


class Pairs(Refused):
    """What is refused of doors is refused of sights as well."""

    def check_pairs(self, kind, name, rooms, pairs):
        self.check(kind, name, rooms, pairs)
        self.check(kind, name, rooms, (), pairs)
        self.check(kind, name, rooms, (("a", "b"), ("b", "a")), pairs)

    def test_strangers(self):
        rooms = ("a", "b", "c")
        for stranger in ("d", "A", "", "aa", "hall nine"):
            self.check_pairs(NoRoom, stranger, rooms, ((stranger, "a"),))
            self.check_pairs(NoRoom, stranger, rooms, (("a", stranger),))
            self.check_pairs(NoRoom, stranger, rooms, ((stranger, stranger),))
            self.check_pairs(NoRoom, stranger, rooms, ((stranger, "x"),))
            self.check_pairs(NoRoom, "x", rooms, (("x", stranger),))
            self.check_pairs(NoRoom, stranger, rooms, (("a", "b"), ("b", "a"), ("c", stranger)))

    def test_no_rooms_at_all(self):
        self.check(NoRoom, "a", (), (("a", "b"),))
        self.check(NoRoom, "a", (), (), (("a", "a"),))

    def test_one_room_twice(self):
        for room in ("a", "b", "c"):
            self.check_pairs(Loop, None, ("a", "b", "c"), ((room, room),))
            self.check_pairs(Loop, None, ("a", "b", "c"), (("a", "b"), ("c", "b"), (room, room)))

    def test_the_first_of_several(self):
        rooms = ("a", "b")
        self.check_pairs(Loop, None, rooms, (("a", "a"), ("x", "a")))
        self.check_pairs(NoRoom, "x", rooms, (("x", "a"), ("a", "a")))
        self.check_pairs(NoRoom, "x", rooms, (("a", "x"), ("y", "a")))
        self.check_pairs(NoRoom, "y", rooms, (("a", "b"), ("y", "x"), ("b", "b")))

    def test_every_order_of_faults(self):
        faults = {("x", "a"): "x", ("a", "y"): "y", ("z", "w"): "z", ("b", "b"): None}
        for order in itertools.permutations(faults):
            name = faults[order[0]]
            kind = Loop if name is None else NoRoom
            self.check_pairs(kind, name, ("a", "b"), (("b", "a"),) + order)


class Several(Refused):
    def test_rooms_ahead_of_doors_and_sights(self):
        self.check(BadName, "B", ("a", "B"), (("a", "x"),), (("a", "a"),))
        self.check(BadName, "B", ("a", "B"), (("a", "B"),))
        self.check(Taken, "a", ("a", "a"), (("a", "a"),), (("a", "x"),))

    def test_doors_ahead_of_sights(self):
        self.check(NoRoom, "x", ("a", "b"), (("x", "a"),), (("a", "a"),))
        self.check(Loop, None, ("a", "b"), (("a", "a"),), (("x", "a"),))
        self.check(NoRoom, "y", ("a", "b"), (("a", "b"), ("a", "y")), (("x", "a"),))
        self.check(NoRoom, "x", ("a", "b"), (("a", "b"),), (("x", "a"),))


if __name__ == "__main__":
    unittest.main()
