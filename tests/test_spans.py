"""Spans, turnings and wheels, held against going on step by step."""

import unittest

from darkthread.house import House
from darkthread.scene import Scene
from tests.plain import some_plain, some_plains

LINE = House(("hall", "stair", "attic"), (("hall", "stair"), ("stair", "attic")))


def still(sizes, watchers, **changes):
    """A scene whose posts stand in the hall, on rounds of these sizes, and of so many watchers."""
    posts = [(name, ("hall",) * size, 0) for name, size in zip("abcde", sizes)]
    return Scene(LINE, posts, [(name, 0) for name in "uvwxyz"[:watchers]], **changes)


class Spans(unittest.TestCase):
    def check(self, scene, span, turning, wheel):
        self.assertEqual((scene.span(), scene.turning(), scene.wheel()), (span, turning, wheel))
        self.assertEqual([type(told) for told in (scene.span(), scene.turning(), scene.wheel())], [int, tuple, int])

    def test_without_posts(self):
        for watchers in range(7):
            for meet in (False, True):
                for relief in range(5):
                    scene = still((), watchers, meet=meet, relief=relief)
                    self.check(scene, 1, tuple(range(watchers)), 1)

    def test_without_changes(self):
        self.check(still((4, 6), 2), 12, (0, 1), 12)
        self.check(still((4, 6), 6), 12, (0, 1, 2, 3, 4, 5), 12)
        self.check(still((4, 5, 6, 3, 2), 5), 60, (0, 1, 2, 3, 4), 60)
        self.check(still((1,), 1), 1, (0,), 1)

    def test_relief_without_anyone_waiting(self):
        for relief in range(5):
            self.check(still((2, 3), 2, relief=relief), 6, (0, 1), 6)
            self.check(still((5,), 1, relief=relief), 5, (0,), 5)

    def test_relief_by_hand(self):
        # One post: at each relief the bearer goes to the end, all others come a place nearer.
        self.check(still((1,), 2, relief=1), 1, (1, 0), 2)
        self.check(still((1,), 4, relief=3), 3, (3, 0, 1, 2), 12)
        self.check(still((2,), 3, relief=3), 6, (1, 2, 0), 18)
        # Two posts, one waits: u v w, then b is relieved: u w v, then a: v w u.
        self.check(still((1, 1), 3, relief=1), 2, (2, 0, 1), 6)
        self.check(still((1, 1), 3, relief=4), 8, (2, 0, 1), 24)
        # Four posts and a relief of 4 make a span of 16, beside a round of 6 one of 48.
        self.assertEqual(still((6, 1, 1, 1), 5, relief=4).span(), 48)
        self.assertEqual(still((6, 5, 4, 3), 5, relief=4).span(), 240)

    def test_meet_by_hand(self):
        self.check(still((1, 1), 2, meet=True), 1, (1, 0), 2)
        self.check(still((2, 3), 2, meet=True), 6, (0, 1), 6)
        self.check(still((3, 3), 3, meet=True), 3, (1, 0, 2), 6)
        self.check(still((1, 1, 1), 3, meet=True), 1, (2, 1, 0), 2)

    def test_both_by_hand(self):
        # u v w: exchanged v u w, then post b is relieved: v w u; exchanged w v u, then post a: u v w.
        self.check(still((1, 1), 3, meet=True, relief=1), 2, (0, 1, 2), 2)

    def test_a_turning_leads_and_does_not_follow(self):
        # A turning of order three tells the place to which one comes, not that from which one came.
        scene = still((1, 1), 3, relief=1)
        for at, watcher in enumerate("uvw"):
            row = [scene.who("a", 2), scene.who("b", 2)]
            self.assertEqual(scene.turning()[at], row.index(watcher) if watcher in row else 2)

    def test_held_against_going_on(self):
        for meet in (False, True):
            for relief in range(5):
                for posts in range(1, 6):
                    for watchers in range(posts, 7):
                        plain = some_plain(relief + posts, rooms=3, posts=posts, watchers=watchers, meet=meet,
                                           relief=relief)
                        with self.subTest(posts=posts, watchers=watchers, meet=meet, relief=relief):
                            self.check(plain.scene, plain.span(), plain.turning(), plain.wheel())

    def test_longer_rounds_held_against_going_on(self):
        for relief in range(5):
            for plain in some_plains(10, rooms=4, posts=4, watchers=6, sizes=(3, 4, 5, 6), meet=True, relief=relief):
                self.check(plain.scene, plain.span(), plain.turning(), plain.wheel())

    def test_behind_a_wheel_all_is_as_it_was(self):
        for relief in range(5):
            for plain in some_plains(6, rooms=3, posts=3, watchers=5, meet=True, relief=relief):
                scene, wheel = plain.scene, plain.scene.wheel()
                for beat in range(-wheel, wheel):
                    self.assertEqual([scene.who(post, beat) for post in scene.posts()],
                                     [scene.who(post, beat + wheel) for post in scene.posts()])
                    self.assertEqual(scene.lit(beat), scene.lit(beat + wheel))
                    self.assertEqual(scene.steps("hall", beat), scene.steps("hall", beat + wheel))

    def test_wheels_of_every_count_of_spans(self):
        found = {}
        for seed in range(200):
            scene = some_plain(seed, rooms=3, posts=3, watchers=6, meet=True, relief=1 + seed % 4).scene
            found[scene.wheel() // scene.span()] = scene.wheel() % scene.span()
        self.assertEqual(found, {spans: 0 for spans in found})
        self.assertLessEqual({1, 2, 3, 4, 5, 6}, set(found))


if __name__ == "__main__":
    unittest.main()
