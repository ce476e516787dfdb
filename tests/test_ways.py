"""Ways of least beats, or closed lots, held against going on with all rooms beat by beat."""

import itertools
import unittest

from darkthread.errors import BadNumber, NoRoom
from darkthread.house import House
from darkthread.scene import Scene
from darkthread.ways import is_closed, is_way, way
from tests.plain import Plain, pairs, some_plains
from tests.refusing import BEYOND, FAR, STRANGERS, Refusing

RING = Plain(tuple("abcd"), pairs("ab bc cd da"), (), (("post", tuple("abcd"), 0),), (("bearer", 0),))


def plains():
    for meet in (False, True):
        for relief in (0, 1, 2):
            yield from some_plains(3, rooms=4, doors=60, sights=10, posts=2, watchers=3, meet=meet, relief=relief)
    yield from some_plains(8, rooms=5, doors=40, sights=10, posts=2, watchers=2, sizes=(2, 3, 4))
    yield from some_plains(6, rooms=6, ring=True, doors=0, sights=10, posts=2, watchers=3, sizes=(2, 3), relief=2)
    yield from some_plains(2, rooms=4, doors=40, posts=0, watchers=1)


def ends(rooms):
    """Starts and goals: none, one, several, in common, twice."""
    first, second, middle, last = rooms[0], rooms[1], rooms[len(rooms) // 2], rooms[-1]
    return (([first], [middle]), ([middle], [first]), ([second], [middle]), ([first], [last]), ([last], [first]),
            ([second], [last]), ([], [last]), ([first], []), ([], []),
            (rooms, [last]), ([first, second], [second, last]), ([first], [first]), (rooms, rooms),
            ([first, first], [last, last]), ([last, second, last], [first, first]))


class Way(unittest.TestCase):
    def check_way(self, plain, starts, goals, told, least, begin):
        word, beat, rooms = told
        self.assertEqual(word, "way")
        self.assertEqual([type(told), type(beat), type(rooms)], [tuple, int, tuple])
        self.assertEqual(len(rooms) - 1, least)
        if begin is None:
            self.assertIn(beat, range(plain.wheel()))
        else:
            self.assertEqual(beat, begin)
        self.assertIs(is_way(plain.scene, starts, goals, beat, rooms), True)
        self.assertTrue(plain.is_walk(beat % plain.wheel(), rooms))
        self.assertIn(rooms[0], starts)
        self.assertIn(rooms[-1], goals)

    def check_closed(self, plain, starts, goals, told, begin):
        word, cells = told
        self.assertEqual((word, type(told), type(cells)), ("closed", tuple, list))
        self.assertTrue(all(type(cell) is tuple for cell in cells))
        self.assertIs(is_closed(plain.scene, starts, goals, cells, begin=begin), True)
        self.assertTrue(plain.is_closed(starts, goals, cells, begin))

    def check(self, plain, starts, goals, begin=None):
        """What is told, as it is due; whether there is a way."""
        told = way(plain.scene, starts, goals, begin=begin)
        if begin is None:
            least = plain.least(starts, goals)
        else:
            least = plain.least_from(starts, goals, begin % plain.wheel())
        if least is None:
            self.check_closed(plain, starts, goals, told, begin)
        else:
            self.check_way(plain, starts, goals, told, least, begin)
        return least

    def test_by_hand(self):
        # In a at beat 0, the post goes round a b c d: from c to a one goes through d.
        self.assertEqual(way(RING.scene, ["c"], ["a"], begin=0), ("way", 0, ("c", "d", "a")))
        self.assertEqual(way(RING.scene, ["c"], ["b"], begin=0), ("way", 0, ("c", "d", "a", "b")))
        self.assertEqual(way(RING.scene, ["c"], ["c"], begin=0), ("way", 0, ("c",)))
        self.assertEqual(way(RING.scene, ["c"], ["a"], begin=4 - FAR), ("way", 4 - FAR, ("c", "d", "a")))
        # At beat 2 the post is in c.
        self.assertEqual(way(RING.scene, ["c"], ["a"], begin=2), ("closed", []))
        self.assertEqual(way(RING.scene, ["c"], ["c"], begin=2), ("closed", []))
        self.assertEqual(way(RING.scene, [], ["a"]), ("closed", []))

    def test_no_way(self):
        scene = Scene(House(tuple("abc"), pairs("ab bc")), (("post", ("b",), 0),), (("bearer", 0),))
        self.assertEqual(way(scene, ["a"], ["c"]), ("closed", [("a", 0)]))
        self.assertEqual(way(scene, ["a"], ["c"], begin=7), ("closed", [("a", 0)]))
        self.assertEqual(way(scene, ["b"], ["c"]), ("closed", []))

    def test_a_common_room_that_is_dark(self):
        scene = Scene(House(tuple("abc"), pairs("ab bc")), (("post", ("b", "b", "c"), 0),), (("bearer", 0),))
        self.assertEqual(way(scene, ["b"], ["b"])[:1] + way(scene, ["b"], ["b"])[2:], ("way", ("b",)))
        self.assertEqual(way(scene, ["b"], ["b"])[1], 2)
        self.assertEqual(way(scene, ["b"], ["b"], begin=5), ("way", 5, ("b",)))
        self.assertEqual(way(scene, ["b"], ["b"], begin=3), ("closed", []))

    def test_begun_at_any_beat_it_may_be_shorter(self):
        shorter = 0
        for plain in plains():
            if plain.least(["hall"], [plain.rooms[-1]]) != plain.least_from(["hall"], [plain.rooms[-1]], 0):
                shorter += 1
        self.assertGreater(shorter, 3)

    def test_begun_at_any_beat(self):
        found = [self.check(plain, starts, goals) for plain in plains() for starts, goals in ends(plain.rooms)]
        self.assertGreater(found.count(None), 20)
        self.assertGreater(len([beats for beats in found if beats is not None and beats > 1]), 20)

    def test_begun_at_a_beat(self):
        found = [self.check(plain, starts, goals, begin) for plain in plains() for starts, goals in ends(plain.rooms)
                 for begin in (0, 1, 2, -1, -7, 31, FAR, FAR - 1, -FAR)]
        self.assertGreater(found.count(None), 100)
        self.assertGreater(len([beats for beats in found if beats is not None and beats > 2]), 20)

    def test_each_beat_of_a_wheel(self):
        for plain in itertools.islice(plains(), 6):
            for begin in range(-plain.wheel(), plain.wheel()):
                self.check(plain, plain.rooms[:1], plain.rooms[-1:], begin)

    def test_long_waits(self):
        # In a ring with two posts the way to the middle is seldom free.
        found = [self.check(plain, ["hall"], ["cellar"], begin) for begin in (None, 0, 4)
                 for plain in some_plains(40, rooms=7, ring=True, doors=0, sights=3, posts=2, watchers=3, sizes=(4, 6),
                                          relief=1)]
        self.assertGreater(len([beats for beats in found if beats is not None and beats > 4]), 5)

    def test_begun_at_none_is_begun_at_any(self):
        for plain in itertools.islice(plains(), 5):
            self.assertEqual(way(plain.scene, ["hall"], ["attic"], begin=None), way(plain.scene, ["hall"], ["attic"]))


class Alike(unittest.TestCase):
    def test_the_same_asked_again(self):
        for plain in plains():
            again = Scene(plain.house, plain.posts, plain.watchers, meet=plain.meet, relief=plain.relief)
            for starts, goals in ends(plain.rooms):
                for begin in (None, 0, -FAR):
                    first = way(plain.scene, list(starts), list(goals), begin=begin)
                    self.assertEqual(way(plain.scene, list(starts), list(goals), begin=begin), first)
                    self.assertEqual(way(plain.scene, tuple(starts), tuple(goals), begin=begin), first)
                    self.assertEqual(way(goals=goals, starts=starts, begin=begin, scene=plain.scene), first)
                    self.assertEqual(way(again, starts, goals, begin=begin), first)

    def test_told_lists_changed(self):
        first = way(RING.scene, ["a"], [])
        kept = list(first[1])
        first[1].clear()
        self.assertEqual(way(RING.scene, ["a"], []), ("closed", kept))
        self.assertGreater(len(kept), 0)

    def test_rows_stay_as_they_were(self):
        starts, goals = ["c", "a", "c"], ["b", "b"]
        way(RING.scene, starts, goals)
        way(RING.scene, starts, goals, begin=2)
        self.assertEqual((starts, goals), (["c", "a", "c"], ["b", "b"]))


class Refused(Refusing):
    def test_strangers(self):
        for name in STRANGERS + ("post", "bearer"):
            for begin in (None, 0, FAR + 1):
                self.check_refused(NoRoom, name, way, RING.scene, [name], ["a"], begin=begin)
                self.check_refused(NoRoom, name, way, RING.scene, ["a", name, "barn"], ["barn"], begin=begin)
                self.check_refused(NoRoom, name, way, RING.scene, [name], [], begin=begin)
                self.check_refused(NoRoom, name, way, RING.scene, ["a"], [name], begin=begin)
                self.check_refused(NoRoom, name, way, RING.scene, ["a"], ["a", "b", name, "barn"], begin=begin)
                self.check_refused(NoRoom, name, way, RING.scene, [], [name], begin=begin)
                self.check_refused(NoRoom, "barn", way, RING.scene, ["a", "barn"], [name], begin=begin)

    def test_beats_beyond(self):
        for beat in BEYOND:
            self.check_refused(BadNumber, beat, way, RING.scene, ["a"], ["b"], begin=beat)
            self.check_refused(BadNumber, beat, way, RING.scene, [], [], begin=beat)
            self.check_refused(BadNumber, beat, way, Scene(House()), [], [], begin=beat)

    def test_begin_by_name_alone(self):
        with self.assertRaises(TypeError):
            way(RING.scene, ["a"], ["b"], 0)


if __name__ == "__main__":
    unittest.main()
