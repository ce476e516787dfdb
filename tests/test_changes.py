"""Where posts are and who bears them, at all beats, held against going on and undoing step by step."""

import unittest

from darkthread.errors import BadNumber, NoPost, NoWatcher
from darkthread.house import House
from darkthread.scene import Scene
from tests.plain import Chance, some_plain, some_plains
from tests.refusing import BEYOND, FAR, STRANGERS, Refusing

NEAR = range(-150, 151)
LINE = House(("hall", "stair", "attic"), (("hall", "stair"), ("stair", "attic")))


class Where(Refusing):
    def test_by_hand(self):
        told = Scene(LINE, (("a", ("hall", "stair", "attic", "stair"), 0), ("b", ("hall", "stair", "hall"), 2)),
                     (("u", 0), ("v", 0)))
        self.assertEqual([told.where("a", beat) for beat in range(-3, 6)],
                         ["stair", "attic", "stair", "hall", "stair", "attic", "stair", "hall", "stair"])
        # With a delay of 2 the round begins at beat 2.
        self.assertEqual([told.where("b", beat) for beat in range(-3, 6)],
                         ["stair", "hall", "hall", "stair", "hall", "hall", "stair", "hall", "hall"])

    def test_at_all_delays_near_and_far(self):
        rooms = ("hall", "stair", "attic", "attic", "stair", "hall")
        beats = list(range(-14, 15)) + [sign * (FAR - less) for sign in (1, -1) for less in range(7)]
        for size in (1, 2, 6):
            row = rooms[:size]
            for delay in range(size):
                told = Scene(LINE, (("a", row, delay),), (("u", 0), ("v", 1)), meet=True, relief=3)
                for beat in beats:
                    self.assertEqual(told.where("a", beat), row[(beat - delay) % size])

    def test_whatever_the_changes(self):
        for meet in (False, True):
            for relief in range(5):
                plain = some_plain(relief, posts=3, watchers=5, meet=meet, relief=relief)
                for number, name in enumerate(plain.scene.posts()):
                    self.assertEqual([plain.scene.where(name, beat) for beat in NEAR],
                                     [plain.room(number, beat) for beat in NEAR])


class Who(unittest.TestCase):
    def check(self, plain, beats=NEAR):
        """The bearers and the borne at these beats, as by going on and undoing."""
        scene = plain.scene
        for beat in beats:
            row = plain.row(beat)
            many = len(plain.posts)
            self.assertEqual([scene.who(post, beat) for post in scene.posts()], row[:many])
            borne = dict(zip(row, scene.posts()))
            self.assertEqual([scene.post_of(watcher, beat) for watcher in scene.watchers()],
                             [borne.get(watcher) for watcher in scene.watchers()])

    def test_nobody_changes(self):
        for plain in some_plains(10, posts=3, watchers=5):
            self.check(plain)
            self.assertEqual([plain.scene.who(post, 77) for post in plain.scene.posts()], ["zoe", "abe", "kim"])
            self.assertIsNone(plain.scene.post_of("liv", -77))

    def test_hand_overs_alone(self):
        for posts in (2, 3, 4, 5):
            for plain in some_plains(12, rooms=3, doors=80, posts=posts, watchers=6, meet=True):
                self.check(plain)

    def test_reliefs_alone(self):
        for relief in (1, 2, 3, 4):
            for posts in range(1, 6):
                for watchers in range(posts, 7):
                    self.check(some_plain(posts, posts=posts, watchers=watchers, relief=relief))

    def test_both(self):
        for relief in (1, 2, 3, 4):
            for posts in range(1, 6):
                for watchers in range(posts, 7):
                    self.check(some_plain(watchers, rooms=3, posts=posts, watchers=watchers, meet=True, relief=relief))

    def test_longer_rounds(self):
        for seed in range(15):
            self.check(some_plain(seed, rooms=5, posts=4, watchers=6, sizes=(4, 5, 6), meet=True, relief=seed % 5))

    def test_no_posts(self):
        scene = Scene(LINE, (), (("u", 0), ("v", 1)), meet=True, relief=1)
        self.assertEqual([scene.post_of(watcher, beat) for watcher in "uv" for beat in (-3, 0, 3)], [None] * 6)

    def test_nobody_waits(self):
        # With nobody to relieve them the watchers bear the same posts for ever.
        scene = Scene(LINE, (("a", ("hall",), 0), ("b", ("attic",), 0)), (("u", 0), ("v", 1)), meet=True, relief=1)
        for beat in NEAR:
            self.assertEqual((scene.who("a", beat), scene.who("b", beat)), ("u", "v"))

    def test_two_meet_by_hand(self):
        scene = Scene(LINE, (("a", ("hall", "stair"), 0), ("b", ("stair",), 0)), (("u", 0), ("v", 1)), meet=True)
        # They are in one room at the odd beats, and hand over there.
        self.assertEqual([scene.who("a", beat) for beat in range(-4, 6)], list("uvvuuvvuuv"))
        self.assertEqual([scene.who("b", beat) for beat in range(-4, 6)], list("vuuvvuuvvu"))

    def test_together_at_nought(self):
        # At beat 0 all is as told, though the posts are in one room then; ahead of it they were exchanged.
        scene = Scene(LINE, (("a", ("hall", "stair"), 0), ("b", ("hall", "hall"), 0)), (("u", 0), ("v", 1)), meet=True)
        self.assertEqual([scene.who("a", beat) for beat in (-2, -1, 0, 1, 2, 3)], list("vvuuvv"))

    def test_three_in_one_room_by_hand(self):
        # First with second, first with third, second with third: from u v w to v u w, w u v, w v u.
        scene = Scene(LINE, [(name, ("hall",), 0) for name in "abc"], (("u", 0), ("v", 0), ("w", 0)), meet=True)
        self.assertEqual([[scene.who(post, beat) for post in "abc"] for beat in (-1, 0, 1, 2)],
                         [list("wvu"), list("uvw"), list("wvu"), list("uvw")])

    def test_four_and_five_in_one_room(self):
        for many in (4, 5):
            for watchers in range(many, 7):
                for relief in (0, 1, 3):
                    self.check(some_plain(0, rooms=1, posts=many, watchers=watchers, sizes=(1, 2), meet=True,
                                          relief=relief), range(-40, 41))

    def test_two_rooms_with_two_each(self):
        scene = Scene(LINE, (("a", ("hall",), 0), ("b", ("attic",), 0), ("c", ("attic",), 0), ("d", ("hall",), 0)),
                      [(name, 0) for name in "uvwx"], meet=True)
        self.assertEqual([scene.who(post, 1) for post in "abcd"], list("xwvu"))

    def test_relief_by_hand(self):
        scene = Scene(LINE, (("a", ("hall",), 0), ("b", ("attic",), 0)), [(name, 0) for name in "uvwx"], relief=2)
        # Post b is relieved at beat 2, a at 4, b at 6, a at 8 ..; and at beat 0 it was a, at beat -2 it was b.
        told = {beat: [scene.who("a", beat), scene.who("b", beat)] for beat in range(-3, 9)}
        self.assertEqual(told, {-3: list("xw"), -2: list("xv"), -1: list("xv"),
                                0: list("uv"), 1: list("uv"), 2: list("uw"), 3: list("uw"),
                                4: list("xw"), 5: list("xw"), 6: list("xv"), 7: list("xv"), 8: list("uv")})

    def test_relief_behind_hand_over(self):
        # At beat 1 both exchange their watchers; then post b is relieved of the one who has just come to it.
        scene = Scene(LINE, (("a", ("hall",), 0), ("b", ("hall",), 0)), [(name, 0) for name in "uvw"],
                      meet=True, relief=1)
        self.assertEqual([scene.who(post, 1) for post in "ab"], ["v", "w"])
        self.assertIsNone(scene.post_of("u", 1))

    def test_asked_in_another_order(self):
        plain = some_plain(3, rooms=3, posts=4, watchers=6, meet=True, relief=3)
        asked = [(post, beat) for post in plain.scene.posts() for beat in range(-60, 61)]
        first = {each: plain.scene.who(*each) for each in asked}
        for seed in range(3):
            asked = Chance(seed).unlike_of(asked, len(asked))
            again = some_plain(3, rooms=3, posts=4, watchers=6, meet=True, relief=3).scene
            self.assertEqual({each: again.who(*each) for each in asked}, first)
            self.assertEqual({each: plain.scene.who(*each) for each in asked}, first)

    def test_far_beats_by_the_wheel(self):
        for plain in some_plains(10, rooms=3, posts=3, watchers=5, meet=True, relief=3):
            scene, wheel = plain.scene, plain.wheel()
            for beat in [sign * (FAR - less) for sign in (1, -1) for less in range(40)]:
                row = plain.row(beat % wheel)
                self.assertEqual([scene.who(post, beat) for post in scene.posts()], row[:3])
                self.assertEqual([scene.post_of(watcher, beat) for watcher in row], scene.posts() + [None] * 2)
                self.assertEqual([scene.where(post, beat) for post in scene.posts()],
                                 [plain.room(number, beat % wheel) for number in range(3)])


class Refused(Refusing):
    def setUp(self):
        self.scene = some_plain(1, posts=2, watchers=3, meet=True, relief=2).scene

    def test_strangers(self):
        for beat in (0, 5, -FAR, FAR) + BEYOND:
            for name in STRANGERS + ("zoe", "hall"):
                self.check_refused(NoPost, name, self.scene.where, name, beat)
                self.check_refused(NoPost, name, self.scene.who, name, beat)
            for name in STRANGERS + ("north", "hall"):
                self.check_refused(NoWatcher, name, self.scene.post_of, name, beat)

    def test_beats_beyond(self):
        for beat in BEYOND:
            for post in self.scene.posts():
                self.check_refused(BadNumber, beat, self.scene.where, post, beat)
                self.check_refused(BadNumber, beat, self.scene.who, post, beat)
            for watcher in self.scene.watchers():
                self.check_refused(BadNumber, beat, self.scene.post_of, watcher, beat)

    def test_no_posts_or_watchers(self):
        empty = Scene(House())
        self.check_refused(NoPost, "north", empty.where, "north", FAR + 1)
        self.check_refused(NoPost, "north", empty.who, "north", 0)
        self.check_refused(NoWatcher, "zoe", empty.post_of, "zoe", 0)


if __name__ == "__main__":
    unittest.main()
