"""Rounds: which rows are rounds, where a post is, and a round turned about."""

import itertools
import unittest

from darkthread.errors import BadRound, NoRoom, NotAWalk
from darkthread.house import House
from darkthread.rounds import MOST_ROUND, need_round, place, turned

# A path a - b - c - d, and a room alone; the sights are no way to go.
PATH = House(("a", "b", "c", "d", "lone"), (("a", "b"), ("b", "c"), ("c", "d")), (("a", "c"), ("a", "d"), ("lone", "a")))
RING = House(("a", "b", "c", "d", "e", "f"),
             (("a", "b"), ("b", "c"), ("c", "d"), ("d", "e"), ("e", "f"), ("f", "a")))
ROWS = (("a",), ("a", "b"), ("a", "b", "c"), ("b", "a", "b", "c"), ("a", "a", "b", "b", "c"), ("f", "e", "d", "c", "b", "a"),
        ("a", "a", "a"), ("", "No Name"), tuple("abcdefghijklmn"))
FAR = (10 ** 12, 10 ** 12 - 1, 10 ** 12 - 5, 10 ** 9 + 7, -(10 ** 9) - 7, 5 - 10 ** 12, 1 - 10 ** 12, -(10 ** 12))
BEATS = tuple(range(-15, 16)) + FAR


class NeedRound(unittest.TestCase):
    def check_good(self, house, rooms):
        for row in (tuple(rooms), list(rooms)):
            with self.subTest(row=row):
                self.assertIsNone(need_round(house, row))

    def check_bad(self, kind, field, value, house, rooms):
        for row in (tuple(rooms), list(rooms)):
            with self.subTest(row=row), self.assertRaises(kind) as caught:
                need_round(house, row)
            self.assertIs(type(caught.exception), kind)
            if field is not None:
                self.assertEqual(getattr(caught.exception, field), value)

    def test_most_round(self):
        self.assertEqual(MOST_ROUND, 6)
        self.assertIs(type(MOST_ROUND), int)

    def test_rounds(self):
        for rooms in ("a", "aa", "ab", "aaaaaa", "abcdcb", "abab", "aabbcb", "bcb", "dcc"):
            self.check_good(PATH, rooms)
        self.check_good(RING, "abcdef")
        self.check_good(RING, "fedcba")
        self.check_good(PATH, ("lone",))
        self.check_good(PATH, ("lone",) * 6)

    def test_one_to_six_rooms(self):
        for many in range(10):
            if 1 <= many <= 6:
                self.check_good(PATH, "a" * many)
            else:
                self.check_bad(BadRound, None, None, PATH, "a" * many)

    def test_no_rooms_in_an_empty_house(self):
        self.check_bad(BadRound, None, None, House(), ())
        self.check_bad(NoRoom, "name", "a", House(), ("a",))

    def test_strangers_at_each_place(self):
        for many in range(1, 7):
            for at in range(many):
                rooms = ["a"] * many
                rooms[at] = "shed"
                self.check_bad(NoRoom, "name", "shed", PATH, rooms)

    def test_first_of_several_strangers(self):
        self.check_bad(NoRoom, "name", "y", PATH, ("a", "y", "x"))
        self.check_bad(NoRoom, "name", "x", PATH, ("x", "a", "y"))
        self.check_bad(NoRoom, "name", "", PATH, ("a", ""))

    def test_not_at_hand_at_each_place(self):
        for many in range(2, 7):
            # A break at the last place alone: on and on along the ring, then no door back.
            row = "abcdef"[:many]
            if many not in (2, 6):
                self.check_bad(NotAWalk, "at", many - 1, RING, row)
        for at in range(5):
            # A jump over one room of the ring, and from there back the long way or by stays.
            rooms = ["a"] * (at + 1) + ["c"] * (5 - at)
            self.check_bad(NotAWalk, "at", at, RING, rooms)
        self.check_bad(NotAWalk, "at", 5, PATH, "abcddd")
        self.check_bad(NotAWalk, "at", 5, PATH, "aabbcc")
        self.check_bad(NotAWalk, "at", 1, PATH, ("a", "b", "lone"))
        self.check_bad(NotAWalk, "at", 0, PATH, ("a", "lone"))

    def test_last_back_to_the_first(self):
        self.check_bad(NotAWalk, "at", 2, PATH, "abc")
        self.check_bad(NotAWalk, "at", 3, PATH, "dcba")
        self.check_good(PATH, "abcb")

    def test_a_sight_is_no_door(self):
        self.check_bad(NotAWalk, "at", 0, PATH, "ac")
        self.check_bad(NotAWalk, "at", 0, PATH, "ca")

    def test_several_at_once(self):
        self.check_bad(BadRound, None, None, PATH, ("x",) * 7)
        self.check_bad(BadRound, None, None, PATH, ("a", "d", "x", "a", "a", "a", "a"))
        self.check_bad(NoRoom, "name", "x", PATH, ("a", "d", "x"))
        self.check_bad(NoRoom, "name", "x", PATH, ("a", "c", "a", "c", "a", "x"))
        self.check_bad(NotAWalk, "at", 0, PATH, ("a", "c", "a", "c"))
        self.check_bad(NotAWalk, "at", 1, PATH, ("b", "a", "c", "a", "d"))

    def test_all_rows_of_a_small_house(self):
        house = House(("a", "b", "c"), (("c", "b"), ("b", "a")), (("a", "c"), ("c", "a")))
        for many in range(1, 7):
            for rooms in itertools.product("abc", repeat=many):
                steps = list(zip(rooms, rooms[1:] + rooms[:1]))
                gaps = [at for at, step in enumerate(steps) if set(step) == {"a", "c"}]
                if gaps:
                    self.check_bad(NotAWalk, "at", gaps[0], house, rooms)
                else:
                    self.check_good(house, rooms)

    def test_handed_row_stays(self):
        for rooms in (["a", "b"], ["a", "c"], ["a", "x"], [], ["a"] * 7):
            kept = list(rooms)
            try:
                need_round(PATH, rooms)
            except (BadRound, NoRoom, NotAWalk):
                pass
            self.assertEqual(rooms, kept)
        self.assertEqual(PATH.rooms(), ["a", "b", "c", "d", "lone"])


class Place(unittest.TestCase):
    def test_without_delay(self):
        for rooms in ROWS:
            for beat in BEATS:
                with self.subTest(rooms=rooms, beat=beat):
                    self.assertEqual(place(rooms, beat), rooms[beat % len(rooms)])

    def test_by_hand(self):
        rooms = ("a", "b", "c")
        self.assertEqual([place(rooms, beat) for beat in range(-4, 5)], list("cabcabcab"))
        self.assertEqual([place(rooms, beat, delay=1) for beat in range(-4, 5)], list("bcabcabca"))
        self.assertEqual([place(rooms, beat, delay=2) for beat in range(5)], list("bcabc"))
        self.assertEqual(place(rooms, 10 ** 12), "b")
        self.assertEqual(place(rooms, -(10 ** 12)), "c")

    def test_with_delay(self):
        for rooms in ROWS:
            for beat in (0, 1, -1, 7) + FAR:
                for delay in BEATS:
                    with self.subTest(rooms=rooms, beat=beat, delay=delay):
                        self.assertEqual(place(rooms, beat, delay=delay), rooms[(beat - delay) % len(rooms)])

    def test_at_the_delay_stands_the_first_room(self):
        for rooms in ROWS:
            for beat in BEATS:
                self.assertEqual(place(rooms, beat, delay=beat), rooms[0])

    def test_delay_left_out_is_none(self):
        for rooms in ROWS:
            for beat in BEATS:
                self.assertEqual(place(rooms, beat), place(rooms, beat, delay=0))

    def test_lists_and_names(self):
        rooms = ["a", "b", "c"]
        self.assertEqual(place(rooms, 4), "b")
        self.assertEqual(place(beat=4, rooms=rooms, delay=2), "c")
        self.assertEqual(rooms, ["a", "b", "c"])

    def test_delay_by_name_alone(self):
        with self.assertRaises(TypeError):
            place(("a", "b"), 0, 1)


class Turned(unittest.TestCase):
    def test_by_hand(self):
        self.assertEqual(turned(("a",)), ("a",))
        self.assertEqual(turned(("a", "b")), ("a", "b"))
        self.assertEqual(turned(("a", "b", "c")), ("a", "c", "b"))
        self.assertEqual(turned(["a", "b", "c", "d", "e", "f"]), ("a", "f", "e", "d", "c", "b"))

    def test_a_tuple_and_the_row_stays(self):
        for rooms in ROWS:
            row = list(rooms)
            self.assertIs(type(turned(row)), tuple)
            self.assertIs(type(turned(rooms)), tuple)
            self.assertEqual(turned(row), turned(rooms))
            self.assertEqual(row, list(rooms))

    def test_at_every_beat_as_with_the_sign_turned(self):
        for rooms in ROWS:
            for beat in BEATS:
                with self.subTest(rooms=rooms, beat=beat):
                    self.assertEqual(place(turned(rooms), beat), place(rooms, -beat))

    def test_twice_is_the_first_again(self):
        for rooms in ROWS:
            self.assertEqual(turned(turned(rooms)), rooms)
            self.assertEqual(turned(turned(list(rooms))), rooms)

    def test_a_round_turned_is_a_round(self):
        for rooms in ("a", "ab", "abcdcb", "aabbcb", "bcb"):
            self.assertIsNone(need_round(PATH, turned(tuple(rooms))))


if __name__ == "__main__":
    unittest.main()
