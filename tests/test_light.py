"""Light: lit and dark rooms, barred steps, and the steps that are left."""

import itertools
import unittest

from darkthread.errors import BadNumber, NoRoom
from darkthread.house import House
from darkthread.scene import Scene
from tests.plain import some_plain, some_plains
from tests.refusing import BEYOND, FAR, STRANGERS, Refusing

NEAR = range(-30, 31)
# A line a - b - c and a room d beside it; a sees d, though no door leads there, and c sees a, not the other way.
HOUSE = House(("d", "c", "b", "a"), (("a", "b"), ("b", "c")), (("a", "d"), ("c", "a"), ("c", "d")))


def walker(reach, *, rooms=("a", "b", "c", "b"), delay=0):
    return Scene(HOUSE, (("post", rooms, delay),), (("bearer", reach),))


def plains():
    """Scenes of all kinds of changes."""
    for meet in (False, True):
        for relief in (0, 1, 3):
            yield from some_plains(5, rooms=4, posts=2, watchers=4, meet=meet, relief=relief)
    yield from some_plains(5, rooms=5, doors=70, posts=3, watchers=4, sizes=(3, 5, 6), meet=True, relief=2)
    yield from some_plains(2, posts=0, watchers=2)


class Lit(unittest.TestCase):
    def test_short_lamp(self):
        self.assertEqual([walker(0).lit(beat) for beat in range(-2, 4)], [["c"], ["b"], ["a"], ["b"], ["c"], ["b"]])

    def test_long_lamp(self):
        # In the order of the house, whatever the order of the posts and sights.
        self.assertEqual([walker(1).lit(beat) for beat in range(-2, 4)],
                         [["d", "c", "a"], ["b"], ["d", "a"], ["b"], ["d", "c", "a"], ["b"]])

    def test_several_posts(self):
        scene = Scene(HOUSE, (("one", ("a",), 0), ("two", ("a", "b"), 0), ("three", ("b", "a"), 0)),
                      (("u", 0), ("v", 0), ("w", 0)))
        self.assertEqual([scene.lit(beat) for beat in (-1, 0, 1)], [["b", "a"]] * 3)
        scene = Scene(HOUSE, (("one", ("a",), 0), ("two", ("c",), 0)), (("u", 1), ("v", 1)))
        self.assertEqual(scene.lit(0), ["d", "c", "a"])

    def test_the_lamp_goes_with_the_watcher(self):
        # By relief the long lamp comes at the odd beats; by hand-over to the post that goes to and fro.
        scene = Scene(HOUSE, (("one", ("a", "a"), 0),), (("u", 0), ("v", 1)), relief=1)
        self.assertEqual([scene.lit(beat) for beat in (-1, 0, 1, 2)], [["d", "a"], ["a"], ["d", "a"], ["a"]])
        # Behind two hand-overs each has the lamp that it had.
        scene = Scene(HOUSE, (("one", ("a", "b", "b"), 0), ("two", ("b",), 0)), (("u", 0), ("v", 1)), meet=True)
        self.assertEqual([scene.lit(beat) for beat in (0, 1, 2, 3, 4, 5, 6)],
                         [["b", "a"], ["b"], ["b"], ["b", "a"], ["b"], ["b"], ["b", "a"]])
        scene = Scene(HOUSE, (("one", ("a", "b"), 0), ("two", ("b",), 0)), (("u", 0), ("v", 1)), meet=True)
        self.assertEqual([scene.lit(beat) for beat in (0, 2, 4, -2)],
                         [["b", "a"], ["d", "b", "a"], ["b", "a"], ["d", "b", "a"]])

    def test_those_who_wait_light_nothing(self):
        scene = Scene(HOUSE, (("one", ("b",), 0),), (("u", 0), ("v", 1), ("w", 1)))
        self.assertEqual(scene.lit(0), ["b"])
        self.assertEqual(Scene(HOUSE, (), (("v", 1),)).lit(0), [])

    def test_held_against_the_words(self):
        for plain in plains():
            for beat in NEAR:
                self.assertEqual(plain.scene.lit(beat), plain.lit(beat))
                for room in plain.rooms:
                    self.assertIs(plain.scene.is_dark(room, beat), plain.dark(room, beat))

    def test_far_beats(self):
        for plain in some_plains(4, posts=3, watchers=4, meet=True, relief=3):
            for beat in [sign * (FAR - less) for sign in (1, -1) for less in range(8)]:
                self.assertEqual(plain.scene.lit(beat), plain.lit(beat % plain.wheel()))
                self.assertEqual([plain.scene.is_dark(room, beat) for room in plain.rooms],
                                 [plain.dark(room, beat % plain.wheel()) for room in plain.rooms])


class Barred(unittest.TestCase):
    def test_by_hand(self):
        # From a at beat 0 the post goes to b at beat 1: a step from b to a that ends at beat 1 is barred.
        told = [(a, b, beat) for beat in range(4) for a, b in itertools.product("abcd", repeat=2)
                if walker(0).barred(a, b, beat)]
        self.assertEqual(told, [("a", "b", 0), ("b", "a", 1), ("c", "b", 2), ("b", "c", 3)])

    def test_one_room_is_never_barred(self):
        for plain in plains():
            for beat in NEAR:
                self.assertEqual([plain.scene.barred(room, room, beat) for room in plain.rooms],
                                 [False] * len(plain.rooms))
        still = Scene(HOUSE, (("post", ("a",), 0),), (("u", 1),))
        self.assertIs(still.barred("a", "a", 0), False)

    def test_a_post_that_goes_along_bars_nothing(self):
        self.assertIs(walker(0).barred("a", "b", 1), False)
        self.assertIs(walker(0).barred("b", "c", 2), False)

    def test_a_post_that_stays_bars_nothing(self):
        still = Scene(HOUSE, (("post", ("b", "b", "a"), 0),), (("u", 0),))
        self.assertEqual([still.barred("a", "b", beat) for beat in range(3)], [False, False, True])
        self.assertEqual([still.barred("b", "a", beat) for beat in range(3)], [True, False, False])

    def test_of_several_posts_any_one_bars(self):
        scene = Scene(HOUSE, (("one", ("a", "b"), 0), ("two", ("c", "b"), 0)), (("u", 0), ("v", 0)))
        self.assertEqual([(a, b) for a, b in itertools.product("abc", repeat=2) if scene.barred(a, b, 1)],
                         [("b", "a"), ("b", "c")])

    def test_held_against_the_words(self):
        for plain in plains():
            for beat in NEAR:
                for a, b in itertools.product(plain.rooms, repeat=2):
                    self.assertIs(plain.scene.barred(a, b, beat), plain.barred(a, b, beat))

    def test_the_beat_ahead_at_the_first_beat(self):
        for plain in some_plains(6, posts=3, watchers=3, doors=80):
            for beat in (-FAR, -FAR + 1, FAR):
                for a, b in itertools.product(plain.rooms, repeat=2):
                    self.assertIs(plain.scene.barred(a, b, beat), plain.barred(a, b, beat))
        self.assertEqual([walker(0).barred("b", "a", beat) for beat in (-FAR, -FAR + 1)], [False, True])
        self.assertEqual([walker(0, delay=3).barred("b", "a", beat) for beat in (-FAR, -FAR + 1)], [True, False])


class Steps(unittest.TestCase):
    def test_by_hand(self):
        scene = walker(0)
        self.assertEqual(scene.steps("a", 0), ["a"])
        self.assertEqual(scene.steps("b", 0), ["c"])
        self.assertEqual(scene.steps("c", 0), ["c"])
        self.assertEqual(scene.steps("d", 0), ["d"])
        self.assertEqual(scene.steps("b", 1), ["b", "a"])
        self.assertEqual(scene.steps("c", 1), [])
        self.assertEqual(scene.steps("b", 3), ["c", "b"])

    def test_barred_though_dark(self):
        # The post goes from b to a while one would go from a to b, which is dark then.
        scene = Scene(HOUSE, (("post", ("b", "a"), 0),), (("u", 0),))
        self.assertTrue(scene.is_dark("b", 1))
        self.assertEqual(scene.steps("a", 0), [])
        self.assertEqual(scene.steps("c", 0), ["c", "b"])
        self.assertEqual(scene.steps("b", 0), ["c", "b"])

    def test_lit_though_not_barred(self):
        scene = Scene(HOUSE, (("post", ("c",), 0),), (("u", 1),))
        self.assertEqual([scene.steps(room, 0) for room in "abcd"], [["b"], ["b"], ["b"], []])

    def test_without_posts(self):
        scene = Scene(HOUSE)
        self.assertEqual([scene.steps(room, 5) for room in "abcd"], [["b", "a"], ["c", "b", "a"], ["c", "b"], ["d"]])

    def test_held_against_the_words(self):
        for plain in plains():
            for beat in NEAR:
                for room in plain.rooms:
                    self.assertEqual(plain.scene.steps(room, beat), plain.steps(room, beat))

    def test_the_next_beat_at_the_last_beat(self):
        for plain in some_plains(6, posts=3, watchers=4, doors=80, meet=True, relief=3):
            wheel = plain.wheel()
            for beat in (FAR, FAR - 1, -FAR):
                for room in plain.rooms:
                    self.assertEqual(plain.scene.steps(room, beat), plain.steps(room, beat % wheel))
        self.assertEqual(walker(0).steps("b", FAR), ["c"])


class Refused(Refusing):
    def setUp(self):
        self.scene = some_plain(2, posts=2, watchers=3, meet=True, relief=2).scene

    def test_lit(self):
        for beat in BEYOND:
            self.check_refused(BadNumber, beat, self.scene.lit, beat)
            self.check_refused(BadNumber, beat, Scene(House()).lit, beat)

    def test_a_room_and_a_beat(self):
        for ask in (self.scene.is_dark, self.scene.steps):
            for beat in BEYOND:
                self.check_refused(BadNumber, beat, ask, "hall", beat)
            for name in STRANGERS + ("north", "zoe"):
                for beat in (0, 3, FAR, -FAR) + BEYOND:
                    self.check_refused(NoRoom, name, ask, name, beat)

    def test_two_rooms_and_a_beat(self):
        ask = self.scene.barred
        for beat in BEYOND:
            for a, b in itertools.product(("hall", "stair"), repeat=2):
                self.check_refused(BadNumber, beat, ask, a, b, beat)
        for name in STRANGERS + ("north", "zoe"):
            for beat in (0, 3, FAR, -FAR) + BEYOND:
                self.check_refused(NoRoom, name, ask, name, "hall", beat)
                self.check_refused(NoRoom, name, ask, "hall", name, beat)
                self.check_refused(NoRoom, name, ask, name, name, beat)
                self.check_refused(NoRoom, name, ask, name, "barn", beat)
                self.check_refused(NoRoom, "barn", ask, "barn", name, beat)

    def test_asking_changes_nothing(self):
        kept = [self.scene.lit(beat) for beat in NEAR]
        for ask, handed in ((self.scene.lit, (FAR + 1,)), (self.scene.is_dark, ("shed", 0)),
                            (self.scene.steps, ("hall", FAR + 1)), (self.scene.barred, ("hall", "shed", 0))):
            with self.assertRaises((NoRoom, BadNumber)):
                ask(*handed)
        self.assertEqual([self.scene.lit(beat) for beat in NEAR], kept)
        self.assertEqual(self.scene, some_plain(2, posts=2, watchers=3, meet=True, relief=2).scene)


if __name__ == "__main__":
    unittest.main()
