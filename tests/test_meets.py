"""Meetings of posts and of watchers, held against looking at each beat."""

import itertools
import math
import unittest

from darkthread.errors import NoPost, NoWatcher
from darkthread.house import House
from darkthread.meets import posts_meet, watchers_meet
from darkthread.scene import Scene
from tests.plain import some_plain, some_plains
from tests.refusing import STRANGERS, Refusing

LINE = House(("hall", "stair", "attic"), (("hall", "stair"), ("stair", "attic")))


def plains():
    for meet in (False, True):
        for relief in (0, 1, 2, 3):
            yield from some_plains(4, rooms=3, posts=3, watchers=4, meet=meet, relief=relief)
    yield from some_plains(3, rooms=3, posts=4, watchers=4, sizes=(4, 5, 6), meet=True)
    yield from some_plains(3, rooms=3, posts=1, watchers=3, relief=2)


def watchers_of(plain):
    return [name for name, reach in plain.watchers]


class PostsMeet(Refusing):
    def test_by_hand(self):
        scene = Scene(LINE, (("a", ("hall", "stair"), 0), ("b", ("hall", "stair", "attic", "stair"), 0),
                             ("c", ("stair", "hall", "stair"), 1), ("d", ("hall", "stair"), 1)),
                      [(name, 0) for name in "uvwx"])
        self.assertEqual(posts_meet(scene, "a", "b"), (4, [0, 1, 3]))
        self.assertEqual(posts_meet(scene, "a", "c"), (6, [1, 2, 3]))
        self.assertEqual(posts_meet(scene, "a", "d"), (2, []))

    def test_one_and_itself(self):
        for plain in plains():
            for name, rooms, delay in plain.posts:
                self.assertEqual(posts_meet(plain.scene, name, name), (len(rooms), list(range(len(rooms)))))

    def test_all_pairs_held_against_looking(self):
        for plain in plains():
            for one, other in itertools.product(range(len(plain.posts)), repeat=2):
                wheel = math.lcm(len(plain.posts[one][1]), len(plain.posts[other][1]))
                rests = [beat for beat in range(wheel) if plain.room(one, beat) == plain.room(other, beat)]
                told = posts_meet(plain.scene, plain.posts[one][0], plain.posts[other][0])
                self.assertEqual(told, (wheel, rests))
                for beat in range(-wheel, 0):
                    self.assertIs(beat % wheel in told[1], plain.room(one, beat) == plain.room(other, beat))

    def test_the_wheel_is_of_both_alone(self):
        scene = Scene(LINE, (("a", ("hall", "stair"), 0), ("b", ("stair",), 0), ("c", ("attic",) * 5, 0)),
                      [(name, 0) for name in "uvwx"], meet=True, relief=4)
        self.assertEqual(posts_meet(scene, "a", "b"), (2, [1]))

    def test_kinds_and_new_lists(self):
        scene = some_plain(0).scene
        told = posts_meet(scene, "north", "north")
        self.assertEqual([type(told), type(told[0]), type(told[1])], [tuple, int, list])
        kept = list(told[1])
        told[1].clear()
        self.assertEqual(posts_meet(scene, post="north", other="north")[1], kept)

    def test_strangers(self):
        scene = some_plain(0).scene
        for name in STRANGERS + ("zoe", "hall"):
            self.check_refused(NoPost, name, posts_meet, scene, name, "south")
            self.check_refused(NoPost, name, posts_meet, scene, "south", name)
            self.check_refused(NoPost, name, posts_meet, scene, name, name)
            self.check_refused(NoPost, name, posts_meet, scene, name, "barn")
            self.check_refused(NoPost, "barn", posts_meet, scene, "barn", name)
        self.check_refused(NoPost, "north", posts_meet, Scene(LINE), "north", "north")


class WatchersMeet(Refusing):
    def test_by_hand(self):
        # At the odd beats both posts are in the stair.
        posts = (("a", ("hall", "stair"), 0), ("b", ("stair",), 0))
        watchers = (("u", 0), ("v", 1), ("w", 0))
        scene = Scene(LINE, posts, watchers)
        self.assertEqual(watchers_meet(scene, "u", "v"), (2, [1]))
        self.assertEqual(watchers_meet(scene, "u", "w"), (2, []))
        self.assertEqual(watchers_meet(scene, "w", "w"), (2, []))
        self.assertEqual(watchers_meet(scene, "u", "u"), (2, [0, 1]))
        # Handed over they are in one room as before, but the wheel is of all.
        self.assertEqual(watchers_meet(Scene(LINE, posts, watchers, meet=True), "u", "v"), (4, [1, 3]))
        # Two posts in one room and one who waits: behind each beat another one waits.
        scene = Scene(LINE, (("a", ("hall",), 0), ("b", ("hall",), 0)), watchers, relief=1)
        self.assertEqual(scene.wheel(), 6)
        self.assertEqual(watchers_meet(scene, "u", "u"), (6, [0, 1, 3, 4]))
        self.assertEqual(watchers_meet(scene, "u", "w"), (6, [1, 4]))

    def test_those_who_wait_are_in_no_room(self):
        scene = Scene(LINE, (("a", ("hall",), 0),), (("u", 0), ("v", 1), ("w", 0)))
        for one, other in (("v", "w"), ("w", "v"), ("v", "v"), ("u", "v"), ("v", "u")):
            self.assertEqual(watchers_meet(scene, one, other), (1, []))
        self.assertEqual(watchers_meet(Scene(LINE, (), (("u", 0), ("v", 0))), "u", "v"), (1, []))

    def test_all_pairs_held_against_looking(self):
        for plain in plains():
            wheel = plain.wheel()
            rooms = {}
            for watcher, beat in itertools.product(watchers_of(plain), range(-wheel, wheel)):
                number = plain.borne(watcher, beat)
                rooms[watcher, beat] = None if number is None else plain.room(number, beat)
            for one, other in itertools.product(watchers_of(plain), repeat=2):
                rests = [beat for beat in range(wheel)
                         if rooms[one, beat] is not None and rooms[one, beat] == rooms[other, beat]]
                self.assertEqual(watchers_meet(plain.scene, one, other), (wheel, rests))
                for beat in range(-wheel, 0):
                    self.assertIs(beat % wheel in rests,
                                  rooms[one, beat] is not None and rooms[one, beat] == rooms[other, beat])

    def test_kinds_and_new_lists(self):
        scene = some_plain(0).scene
        told = watchers_meet(scene, "zoe", "zoe")
        self.assertEqual([type(told), type(told[0]), type(told[1])], [tuple, int, list])
        kept = list(told[1])
        told[1].clear()
        self.assertEqual(watchers_meet(scene, watcher="zoe", other="zoe")[1], kept)

    def test_strangers(self):
        scene = some_plain(0).scene
        for name in STRANGERS + ("north", "hall"):
            for known in ("zoe", "kim"):
                self.check_refused(NoWatcher, name, watchers_meet, scene, name, known)
                self.check_refused(NoWatcher, name, watchers_meet, scene, known, name)
            self.check_refused(NoWatcher, name, watchers_meet, scene, name, name)
            self.check_refused(NoWatcher, name, watchers_meet, scene, name, "barn")
            self.check_refused(NoWatcher, "barn", watchers_meet, scene, "barn", name)
        self.check_refused(NoWatcher, "zoe", watchers_meet, Scene(LINE), "zoe", "zoe")


if __name__ == "__main__":
    unittest.main()
