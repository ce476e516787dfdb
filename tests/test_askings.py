"""Askings: which tuples are some, and what they come to."""

import unittest

from darkthread.askings import answer, need_asking
from darkthread.errors import BadAsking, BadNumber, NoPost, NoRoom
from darkthread.house import House
from darkthread.linger import linger
from darkthread.meets import posts_meet
from darkthread.scene import Scene
from darkthread.ways import way
from tests.plain import Plain, pairs, some_plains
from tests.refusing import BEYOND, FAR, STRANGERS, Refusing

SIZES = {"where": (3,), "who": (3,), "lit": (2,), "wheel": (1,), "meets": (3,), "way": (3, 4), "linger": (3,)}
BEATS = (0, 1, -1, 5, -7, FAR, -FAR)


def plains():
    found = some_plains(6, rooms=4, doors=50, sights=20, posts=2, watchers=3, meet=True, relief=1)
    found += some_plains(4, rooms=5, doors=40, sights=10, posts=2, watchers=2)
    found += some_plains(3, rooms=3, doors=100, sights=30, posts=2, watchers=3, sizes=(3, 4), relief=2)
    found += some_plains(1, rooms=3, posts=0, watchers=1)
    # A post goes up and down a line of rooms: in all of them one is seen sooner or later.
    found.append(Plain(tuple("abc"), pairs("ab bc"), (), (("post", tuple("abcb"), 0),), (("bearer", 0),)))
    return found


PLAINS = plains()


class NeedAsking(Refusing):
    def test_all_seven_words(self):
        for word, sizes in SIZES.items():
            for size in range(1, 7):
                for things in (("hall",) * (size - 1), (3,) * (size - 1), ("Hall", FAR * 9, "", -1, "x y")[:size - 1]):
                    if size in sizes:
                        self.assertIsNone(need_asking((word, *things)))
                        self.assertIsNone(need_asking(asking=(word, *things)))
                    else:
                        self.check_refused(BadAsking, None, need_asking, (word, *things))
                        self.check_refused(BadAsking, None, answer, PLAINS[0].scene, (word, *things))

    def test_other_words(self):
        for word in ("", "Where", "where ", "ways", "watch", "room", "no", "ask", "name", "number"):
            for size in range(4):
                self.check_refused(BadAsking, None, need_asking, (word, *("hall",) * size))
                self.check_refused(BadAsking, None, answer, PLAINS[0].scene, (word, *("hall",) * size))

    def test_the_empty_tuple(self):
        self.check_refused(BadAsking, None, need_asking, ())
        self.check_refused(BadAsking, None, answer, PLAINS[0].scene, ())


class Answer(unittest.TestCase):
    def check(self, scene, asking, expected):
        told = answer(scene, asking)
        self.assertEqual(told, expected, asking)
        self.assertIs(type(told), type(expected))
        self.assertEqual(answer(scene, asking), told)
        self.assertEqual(answer(asking=asking, scene=scene), told)

    def test_where_who_lit_wheel(self):
        for plain in PLAINS:
            scene = plain.scene
            self.check(scene, ("wheel",), plain.wheel())
            for beat in BEATS:
                self.check(scene, ("lit", beat), tuple(scene.lit(beat)))
                self.check(scene, ("lit", beat), tuple(plain.lit(beat % plain.wheel())))
                for number, post in enumerate(scene.posts()):
                    self.check(scene, ("where", post, beat), plain.room(number, beat))
                    self.check(scene, ("who", post, beat), plain.watcher(number, beat % plain.wheel()))

    def test_meets(self):
        some = 0
        for plain in PLAINS:
            for post in plain.scene.posts():
                for other in plain.scene.posts():
                    rests = tuple(posts_meet(plain.scene, post, other)[1])
                    self.check(plain.scene, ("meets", post, other), rests)
                    some += 0 < len(rests) and post != other
        self.assertGreater(some, 2)

    def test_way(self):
        found = []
        for plain in PLAINS:
            for room in plain.rooms:
                for goal in plain.rooms:
                    self.check(plain.scene, ("way", room, goal), plain.least([room], [goal]))
                    found.append(answer(plain.scene, ("way", room, goal)))
                    for beat in BEATS:
                        least = plain.least_from([room], [goal], beat % plain.wheel())
                        self.check(plain.scene, ("way", room, goal, beat), least)
                        told = way(plain.scene, [room], [goal], begin=beat)
                        self.assertEqual(told[0] == "closed", least is None)
        self.assertGreater(found.count(None), 5)
        self.assertGreater(len([beats for beats in found if beats is not None and beats > 1]), 5)

    def test_linger(self):
        found = []
        for plain in PLAINS:
            for room in plain.rooms:
                for beat in BEATS:
                    longest = plain.longest(room, beat % plain.wheel())
                    expected = {None: "seen", -1: "ever"}.get(longest, longest)
                    self.check(plain.scene, ("linger", room, beat), expected)
                    found.append(expected)
                    told = linger(plain.scene, room, beat)
                    self.assertEqual(told[0], expected if isinstance(expected, str) else "most")
        self.assertGreater(found.count("seen"), 5)
        self.assertGreater(found.count("ever"), 5)
        self.assertGreater(len([beats for beats in found if isinstance(beats, int)]), 3)

    def test_nothing_there(self):
        empty = Scene(House())
        self.check(empty, ("wheel",), 1)
        self.check(empty, ("lit", 4), ())
        apart = Scene(House(("a", "b")), (("p", ("a",), 0), ("q", ("b",), 0)), (("u", 0), ("v", 0)))
        self.check(apart, ("meets", "p", "q"), ())
        self.check(apart, ("meets", "q", "q"), (0,))


class Refused(Refusing):
    SCENE = PLAINS[0].scene

    def test_strangers(self):
        for name in STRANGERS + ("zoe",):
            for beat in (0, FAR + 1):
                self.check_refused(NoPost, name, answer, self.SCENE, ("where", name, beat))
                self.check_refused(NoPost, name, answer, self.SCENE, ("who", name, beat))
                self.check_refused(NoRoom, name, answer, self.SCENE, ("linger", name, beat))
                self.check_refused(NoRoom, name, answer, self.SCENE, ("way", name, "barn", beat))
                self.check_refused(NoRoom, name, answer, self.SCENE, ("way", "hall", name, beat))
            self.check_refused(NoRoom, name, answer, self.SCENE, ("way", name, "barn"))
            self.check_refused(NoRoom, name, answer, self.SCENE, ("way", "hall", name))
            self.check_refused(NoPost, name, answer, self.SCENE, ("meets", name, "other"))
            self.check_refused(NoPost, name, answer, self.SCENE, ("meets", "north", name))

    def test_beats_beyond(self):
        for beat in BEYOND:
            for asking in (("where", "north"), ("who", "south"), ("lit",), ("way", "hall", "attic"),
                           ("linger", "hall")):
                self.check_refused(BadNumber, beat, answer, self.SCENE, (*asking, beat))


if __name__ == "__main__":
    unittest.main()
