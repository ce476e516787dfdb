"""The greatest scenes that can be are answered, too, in a time that a caller can wait for."""

import time
import unittest

from darkthread.house import House
from darkthread.linger import is_ever, is_most, linger
from darkthread.meets import posts_meet, watchers_meet
from darkthread.scene import Scene
from darkthread.several import is_together, together
from darkthread.ways import is_closed, is_walk, is_way, way
from tests.plain import Plain, some_plain

EIGHT = ("hall", "stair", "attic", "cellar", "yard", "den", "loft", "pantry")
# Generous: the slowest of these takes far less than a second of the processor's time.
SECONDS = 20


def greatest_wheel(posts):
    """Of many scenes of eight rooms, so many posts on rounds of unlike lengths and six watchers that of most beats."""
    best = None
    for seed in range(60):
        found = some_plain(seed, rooms=8, ring=True, doors=15, sights=4, posts=posts, watchers=6,
                           sizes=(2, 3, 4, 5, 6), unlike=True, meet=True, relief=4)
        if best is None or found.scene.wheel() > best.scene.wheel():
            best = found
    return best


class Great(unittest.TestCase):
    def setUp(self):
        self.begun = time.process_time()

    def tearDown(self):
        self.assertLess(time.process_time() - self.begun, SECONDS)

    def check_scene(self, plain):
        scene, wheel = plain.scene, plain.wheel()
        self.assertEqual((scene.span(), scene.turning(), scene.wheel()), (plain.span(), plain.turning(), wheel))
        again = Scene(plain.house, plain.posts, plain.watchers, meet=True, relief=4)
        self.assertEqual(again, scene)
        for beat in list(range(-wheel, wheel, 7)) + [10 ** 9, -(10 ** 9)]:
            near = beat if abs(beat) < wheel + 1 else beat % wheel
            self.assertEqual([scene.who(post, beat) for post in scene.posts()], plain.row(near)[:len(plain.posts)])
            self.assertEqual(scene.lit(beat), plain.lit(near))
            for room in EIGHT:
                self.assertEqual(scene.steps(room, beat), plain.steps(room, near))

    def check_meets(self, plain):
        scene, wheel = plain.scene, plain.wheel()
        for one, other in (("zoe", "abe"), ("max", "bo"), ("kim", "kim")):
            both = [(plain.borne(one, beat), plain.borne(other, beat), beat) for beat in range(wheel)]
            rests = [beat for a, b, beat in both if a is not None and b is not None
                     and plain.room(a, beat) == plain.room(b, beat)]
            self.assertEqual(watchers_meet(scene, one, other), (wheel, rests))
        self.assertEqual(posts_meet(scene, "north", "north")[0], len(plain.posts[0][1]))

    def check_ways(self, plain):
        scene = plain.scene
        for goals in (["yard"], ["loft", "cellar"], []):
            for begin in (None, 0, 10 ** 9, -(10 ** 9)):
                told = way(scene, list(EIGHT[:3]), goals, begin=begin)
                if told[0] == "way":
                    self.assertTrue(is_way(scene, EIGHT[:3], goals, told[1], told[2]))
                    self.assertTrue(is_walk(scene, told[1], told[2]))
                else:
                    self.assertTrue(is_closed(scene, EIGHT[:3], goals, told[1], begin=begin))

    def check_together(self, plain):
        """One alone, which is never beyond the bound; two, if they are not."""
        scene = plain.scene
        for begin in (0, 10 ** 9, -(10 ** 9)):
            for wishes in ([("hall", "yard")], [("stair", "pantry")], [("attic", "loft"), ("hall", "den")]):
                if len(EIGHT) ** len(wishes) * scene.wheel() > 20000:
                    continue
                told = together(scene, wishes, begin)
                if told[0] == "way":
                    self.assertTrue(is_together(scene, wishes, begin, told[1]))
                if len(wishes) == 1:
                    alone = way(scene, [wishes[0][0]], [wishes[0][1]], begin=begin)
                    self.assertEqual((told[0], len(told[1])), (alone[0], len(alone[-1])))

    def check_linger(self, plain):
        scene = plain.scene
        for room in EIGHT:
            for beat in (0, 5, 10 ** 9, -(10 ** 9)):
                told = linger(scene, room, beat)
                if told[0] == "ever":
                    self.assertTrue(is_ever(scene, room, beat, told[1], told[2]))
                elif told[0] == "most":
                    self.assertTrue(is_most(scene, room, beat, told[1], told[2]))
                else:
                    self.assertFalse(scene.is_dark(room, beat))

    def check_all(self, plain):
        self.check_scene(plain)
        self.check_meets(plain)
        self.check_ways(plain)
        self.check_linger(plain)
        self.check_together(plain)

    def test_five_posts(self):
        plain = greatest_wheel(5)
        self.assertGreaterEqual(plain.wheel(), 300)
        self.check_all(plain)

    def test_four_posts(self):
        # With two who wait the reliefs of four posts make the longest span.
        plain = greatest_wheel(4)
        self.assertGreaterEqual(plain.wheel(), 960)
        self.check_all(plain)

    def test_every_door_and_no_light_in_the_way(self):
        # All rooms are behind doors of each other, and the posts keep to one room: nearly all cells can be reached.
        doors = [(a, b) for a in EIGHT for b in EIGHT if a < b]
        sizes = (6, 5, 4, 3)
        posts = [(name, ("hall",) * size, 0) for name, size in zip(("north", "south", "east", "west"), sizes)]
        plain = Plain(EIGHT, doors, (), posts, [(name, 0) for name in ("zoe", "abe", "kim", "liv", "bo", "max")],
                      True, 4)
        self.assertGreaterEqual(plain.wheel(), 240)
        told = way(plain.scene, ["stair"], ["hall"])
        self.assertEqual(told[0], "closed")
        self.assertEqual(len(told[1]), 7 * plain.wheel())
        self.assertTrue(is_closed(plain.scene, ["stair"], ["hall"], told[1]))
        told = linger(plain.scene, "stair", 0)
        self.assertTrue(is_ever(plain.scene, "stair", 0, told[1], told[2]))
        self.assertTrue(is_walk(plain.scene, 0, ("stair", "attic") * 5000))
        self.assertEqual(linger(Scene(House(EIGHT, doors), posts, plain.watchers), "hall", 0), ("seen",))


if __name__ == "__main__":
    unittest.main()
