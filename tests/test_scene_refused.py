"""Scenes that are refused: which refusal goes, with its field."""

import itertools
import unittest

from darkthread.errors import BadName, BadNumber, BadRound, Bare, Full, NoRoom, NotAWalk, Taken
from darkthread.house import House
from darkthread.scene import Scene
from tests.refusing import Refusing

HOUSE = House(("hall", "stair", "attic"), (("hall", "stair"), ("stair", "attic")), (("hall", "attic"),))
BAD_NAMES = ("", "North", "north2", "a b", "ninthpost", "north\n", "\u00e4")
GOOD = ("north", ("hall", "stair"), 1)


def posts(many):
    return tuple((name, ("hall", "stair"), 1) for name in "abcdefgh"[:many])


def watchers(many):
    return tuple((name, 1) for name in "stuvwxyz"[:many])


class Refused(Refusing):
    def check(self, kind, value, given_posts, given_watchers, **changes):
        """The refusal, the same by tuples, by lists and by names of the arguments."""
        listed = [(name, list(rooms), delay) for name, rooms, delay in given_posts]
        kept = [(name, list(rooms), delay) for name, rooms, delay in given_posts]
        self.check_refused(kind, value, Scene, HOUSE, given_posts, given_watchers, **changes)
        self.check_refused(kind, value, Scene, HOUSE, listed, list(given_watchers), **changes)
        self.check_refused(kind, value, Scene, watchers=given_watchers, posts=given_posts, house=HOUSE, **changes)
        self.assertEqual(listed, kept)


class Posts(Refused):
    def check_post(self, kind, value, post):
        """A bad post alone, behind a good one, ahead of one, and as the last that may come."""
        self.check(kind, value, (post,), watchers(6))
        self.check(kind, value, (("north", ("hall",), 0), post), watchers(6))
        self.check(kind, value, (post, ("west", ("hall",), 0)), watchers(6))
        self.check(kind, value, posts(4) + (post,), watchers(6))

    def test_more_than_five(self):
        Scene(HOUSE, posts(5), watchers(6))
        for many in (6, 7, 8):
            self.check(Full, None, posts(many), watchers(6))

    def test_bad_name(self):
        for name in BAD_NAMES:
            self.check_post(BadName, name, (name, ("hall",), 0))

    def test_name_twice(self):
        self.check(Taken, "north", (GOOD, GOOD), watchers(2))
        self.check(Taken, "a", posts(4) + (("a", ("attic",), 0),), watchers(6))
        self.check(Taken, "d", posts(4) + (("d", ("attic",), 0),), watchers(6))

    def test_no_round(self):
        self.check_post(BadRound, None, ("old", (), 0))
        self.check_post(BadRound, None, ("old", ("hall",) * 7, 0))
        self.check_post(NoRoom, "shed", ("old", ("hall", "shed"), 0))
        self.check_post(NoRoom, "x", ("old", ("x", "y"), 0))
        self.check_post(NotAWalk, 0, ("old", ("hall", "attic"), 0))
        self.check_post(NotAWalk, 2, ("old", ("hall", "stair", "attic"), 0))
        self.check_post(NotAWalk, 1, ("old", ("stair", "hall", "attic"), 0))

    def test_delay(self):
        for size in range(1, 7):
            rooms = ("hall", "stair", "hall", "stair", "stair", "hall")[:size]
            for delay in range(size):
                self.assertEqual(Scene(HOUSE, (("old", rooms, delay),), watchers(1)).delay_of("old"), delay)
            for delay in (-1, -2, -size, size, size + 1, 10 ** 9, -(10 ** 9), 10 ** 30):
                self.check_post(BadNumber, delay, ("old", rooms, delay))

    def test_several_of_one_post(self):
        self.check_post(BadName, "Old", ("Old", ("x",) * 7, 9))
        self.check_post(BadRound, None, ("old", ("x",) * 7, 9))
        self.check_post(BadRound, None, ("old", (), -1))
        self.check_post(NoRoom, "x", ("old", ("hall", "attic", "x"), 9))
        self.check_post(NotAWalk, 0, ("old", ("hall", "attic"), 9))
        self.check(Taken, "north", (GOOD, ("north", (), 9)), watchers(2))
        self.check(Taken, "north", (GOOD, ("north", ("x",), -1)), watchers(2))

    def test_the_first_bad_post(self):
        bad = {BadName: (("Old", (), 9), "Old"), BadRound: (("old", (), 9), None), NoRoom: (("new", ("x",), 9), "x"),
               NotAWalk: (("far", ("hall", "attic"), 9), 0), BadNumber: (("late", ("hall",), 9), 9)}
        for order in itertools.permutations(bad):
            post, value = bad[order[0]]
            self.check(order[0], value, tuple(bad[kind][0] for kind in order), ())

    def test_taken_behind_a_bad_one(self):
        self.check(BadName, "Old", (GOOD, ("Old", ("hall",), 0), GOOD), watchers(3))
        self.check(Taken, "north", (GOOD, GOOD, ("Old", ("hall",), 0)), watchers(3))


class Watchers(Refused):
    def check_watcher(self, kind, value, watcher):
        self.check(kind, value, (), (watcher,))
        self.check(kind, value, (), watchers(1) + (watcher,))
        self.check(kind, value, (GOOD,), (watcher,) + watchers(1))
        self.check(kind, value, posts(5), watchers(5) + (watcher,))

    def test_more_than_six(self):
        Scene(HOUSE, (), watchers(6))
        for many in (7, 8):
            self.check(Full, None, (), watchers(many))
            self.check(Full, None, posts(5), watchers(many))

    def test_bad_name(self):
        for name in BAD_NAMES:
            self.check_watcher(BadName, name, (name, 1))

    def test_name_twice(self):
        self.check(Taken, "zoe", (), (("zoe", 0), ("zoe", 0)))
        self.check(Taken, "s", (), watchers(5) + (("s", 1),))
        self.check(Taken, "w", (), watchers(5) + (("w", 0),))

    def test_reach(self):
        for reach in (-1, 2, 3, -(10 ** 9), 10 ** 30):
            self.check_watcher(BadNumber, reach, ("zoe", reach))
        for reach in (0, 1):
            self.assertEqual(Scene(HOUSE, (), (("zoe", reach),)).reach_of("zoe"), reach)

    def test_several_of_one_watcher(self):
        self.check_watcher(BadName, "Zoe", ("Zoe", 2))
        self.check(Taken, "zoe", (), (("zoe", 0), ("zoe", 2)))

    def test_the_first_bad_watcher(self):
        self.check(BadNumber, 2, (), (("a", 2), ("B", 1), ("a", 1), ("c", 3)))
        self.check(BadName, "B", (), (("a", 1), ("B", 3), ("a", 1), ("c", 3)))
        self.check(Taken, "a", (), (("a", 1), ("a", 3), ("B", 1), ("c", 3)))
        self.check(BadNumber, 3, (), (("a", 1), ("c", 3), ("a", 1), ("d", 2)))


class Changes(Refused):
    def test_relief(self):
        for relief in range(5):
            Scene(HOUSE, (GOOD,), watchers(2), relief=relief)
        for relief in (-1, 5, 6, -(10 ** 9), 10 ** 30):
            for many in range(3):
                self.check(BadNumber, relief, posts(many), watchers(2), relief=relief)
                self.check(BadNumber, relief, posts(many), watchers(2), meet=True, relief=relief)

    def test_fewer_watchers_than_posts(self):
        for many in range(6):
            for borne in range(7):
                if borne < many:
                    self.check(Bare, None, posts(many), watchers(borne))
                    self.check(Bare, None, posts(many), watchers(borne), meet=True, relief=4)
                else:
                    self.assertEqual(len(Scene(HOUSE, posts(many), watchers(borne))), many)


class Several(Refused):
    def test_full_ahead_of_all_else(self):
        self.check(Full, None, (("A", (), 9),) + posts(5), (), relief=9)
        self.check(Full, None, (("A", (), 9),), (("B", 9),) + watchers(6), relief=9)
        self.check(Full, None, posts(5) + posts(5), watchers(7))
        self.check(Full, None, posts(6), (("B", 9),))

    def test_posts_ahead_of_watchers(self):
        for post, kind, value in ((("A", ("hall",), 0), BadName, "A"), (("a", (), 0), BadRound, None),
                                  (("a", ("x",), 0), NoRoom, "x"), (("a", ("hall", "attic"), 0), NotAWalk, 0),
                                  (("a", ("hall",), 7), BadNumber, 7)):
            self.check(kind, value, (post,), (("B", 9),), relief=9)
            self.check(kind, value, (post,), (), relief=9)

    def test_watchers_ahead_of_relief(self):
        self.check(BadName, "B", (GOOD,), (("B", 9),), relief=9)
        self.check(BadNumber, 8, (GOOD,), (("b", 8),), relief=9)
        self.check(Taken, "b", (GOOD,), (("b", 0), ("b", 8)), relief=9)
        self.check(BadNumber, 8, posts(5), (("b", 8),), relief=9)

    def test_relief_ahead_of_bare(self):
        self.check(BadNumber, 5, posts(3), watchers(2), relief=5)
        self.check(BadNumber, -1, posts(1), (), relief=-1)
        self.check(Bare, None, posts(1), (), relief=4)


if __name__ == "__main__":
    unittest.main()
