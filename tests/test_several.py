"""Several at once: joint ways of least beats, or closed lots, held against all tuples beat by beat."""

import itertools
import unittest

from darkthread.errors import BadNumber, Full, NoRoom, TooGreat
from darkthread.house import House
from darkthread.scene import Scene
from darkthread.several import is_together, together
from darkthread.ways import way
from tests import joint
from tests.plain import Plain, pairs, some_plains
from tests.refusing import BEYOND, FAR, STRANGERS, Refusing


def plains():
    found = []
    for meet, relief in ((False, 0), (True, 0), (False, 1), (True, 2)):
        found += some_plains(4, rooms=4, doors=60, sights=10, posts=1, watchers=2, sizes=(1, 2, 3, 4), meet=meet,
                             relief=relief)
    found += some_plains(5, rooms=5, doors=45, sights=0, posts=2, watchers=3, sizes=(1, 2, 3), relief=1)
    found += some_plains(4, rooms=5, ring=True, doors=0, sights=0, posts=1, watchers=1, sizes=(1, 2, 5))
    found += some_plains(4, rooms=6, ring=True, doors=10, sights=0, posts=1, watchers=1, sizes=(2, 3, 6))
    found += some_plains(3, rooms=4, doors=45, posts=0, watchers=1)
    return found


PLAINS = plains()


def wishes_of(rooms):
    """Wishes of one to three walkers: goals in turn, exchanged, shared, the same room, alike."""
    a, b, c, d = rooms[0], rooms[1], rooms[2], rooms[-1]
    return ([(a, d)], [(b, b)], [(a, b), (b, a)], [(a, d), (c, b)], [(a, d), (a, b)], [(a, d), (b, d)],
            [(a, a), (b, d)], [(c, d), (c, d)], [(a, b), (b, c), (c, a)], [(a, d), (b, a), (c, b)],
            [(a, c), (b, d), (d, d)], [(a, b), (c, b), (d, a)], [(d, a), (d, a), (b, c)])


def ends(wishes):
    return tuple(room for room, goal in wishes), tuple(goal for room, goal in wishes)


class Together(unittest.TestCase):
    def check(self, plain, wishes, begin):
        """What is told, as it is due; the least beats."""
        starts, goals = ends(wishes)
        least = joint.least(plain, starts, goals, begin)
        told = together(plain.scene, wishes, begin)
        self.assertEqual((type(told), type(told[1]), len(told)), (tuple, list, 2))
        if least is None:
            self.assertEqual(told[0], "closed")
            for rooms, rest in told[1]:
                self.assertEqual((type(rooms), len(rooms)), (tuple, len(wishes)))
                self.assertIn(rest, range(plain.wheel()))
            self.assertTrue(joint.is_closed(plain, starts, goals, begin, told[1]))
        else:
            self.assertEqual((told[0], len(told[1]) - 1), ("way", least))
            self.assertTrue(all(type(rooms) is tuple for rooms in told[1]))
            self.assertTrue(joint.is_joint(plain, starts, goals, begin, told[1]))
            self.assertIs(is_together(plain.scene, wishes, begin, told[1]), True)
        return least

    def test_held_against_all_tuples(self):
        found = {1: [], 2: [], 3: []}
        for plain in PLAINS:
            for wishes in wishes_of(plain.rooms):
                for begin in (0, 1, -5, FAR, -FAR):
                    found[len(wishes)].append(self.check(plain, wishes, begin))
        for walkers in (1, 2, 3):
            self.assertGreater(found[walkers].count(None), 10)
            self.assertGreater(len([beats for beats in found[walkers] if beats is not None and beats > 1]), 3)

    def test_by_hand(self):
        line = Scene(House(tuple("abc"), pairs("ab bc")))
        self.assertEqual(together(line, [("a", "b"), ("b", "c")], 0), ("way", [("a", "b"), ("b", "c")]))
        self.assertEqual(together(line, [("a", "a"), ("b", "b"), ("c", "c")], 7), ("way", [("a", "b", "c")]))
        # In a line nobody comes by another one.
        told = together(line, [("a", "b"), ("b", "a")], 0)
        self.assertEqual((told[0], sorted(told[1])), ("closed", [(("a", "b"), 0), (("a", "c"), 0), (("b", "c"), 0)]))
        # In a ring of three all go on at once, two of three need two beats to change places.
        ring = Scene(House(tuple("abc"), pairs("ab bc ca")))
        self.assertEqual(together(ring, [("a", "b"), ("b", "c"), ("c", "a")], -3),
                         ("way", [("a", "b", "c"), ("b", "c", "a")]))
        self.assertEqual(len(together(ring, [("a", "b"), ("b", "a")], 0)[1]), 3)
        self.assertEqual(together(ring, [("a", "b"), ("b", "a"), ("c", "c")], 0)[0], "closed")

    def test_what_cannot_begin(self):
        plain = Plain(tuple("abc"), pairs("ab bc"), (), (("post", tuple("ab"), 0),), (("bearer", 0),))
        for wishes, begin in (([("a", "c")], 0), ([("a", "c")], -2), ([("b", "b")], 3), ([("c", "c"), ("c", "a")], 0),
                              ([("c", "c"), ("a", "a")], FAR), ([("b", "a"), ("c", "c"), ("b", "b")], 0)):
            self.assertEqual(together(plain.scene, wishes, begin), ("closed", []))

    def test_goals_alike(self):
        ring = Scene(House(tuple("abcd"), pairs("ab bc cd da")))
        told = together(ring, [("a", "c"), ("b", "c")], 0)
        self.assertEqual((told[0], len(told[1])), ("closed", 12))

    def test_one_alone_as_way(self):
        for plain in PLAINS:
            for room, goal in itertools.product(plain.rooms, repeat=2):
                for begin in (0, 3, -FAR, FAR):
                    alone = way(plain.scene, [room], [goal], begin=begin)
                    told = together(plain.scene, [(room, goal)], begin)
                    self.assertEqual(told[0], alone[0])
                    if told[0] == "way":
                        self.assertEqual(len(told[1]), len(alone[2]))

    def test_the_walkers_in_another_order(self):
        for plain in PLAINS[::2]:
            for wishes in wishes_of(plain.rooms)[4:]:
                first = together(plain.scene, wishes, 2)
                for turned in itertools.permutations(wishes):
                    told = together(plain.scene, turned, 2)
                    self.assertEqual((told[0], len(told[1])), (first[0], len(first[1])))


class Alike(unittest.TestCase):
    def test_the_same_asked_again(self):
        for plain in PLAINS:
            for wishes in wishes_of(plain.rooms):
                first = together(plain.scene, wishes, 1)
                self.assertEqual(together(plain.scene, wishes, 1), first)
                self.assertEqual(together(plain.scene, tuple(wishes), 1), first)
                self.assertEqual(together(begin=1, wishes=wishes, scene=plain.scene), first)
                again = Scene(plain.house, plain.posts, plain.watchers, meet=plain.meet, relief=plain.relief)
                self.assertEqual(together(again, wishes, 1), first)

    def test_told_lists_changed_and_rows_stay(self):
        line = Scene(House(tuple("abc"), pairs("ab bc")))
        for wishes in ([("a", "b"), ("b", "c")], [("a", "b"), ("b", "a")]):
            kept = list(wishes)
            word, told = together(line, wishes, 0)
            copied = list(told)
            told.clear()
            self.assertEqual(together(line, wishes, 0), (word, copied))
            is_together(line, wishes, 0, copied)
            self.assertEqual(wishes, kept)


def bent(rooms, rows):
    """Rows of tuples that come from a joint way by exchanging, leaving out or doubling something."""
    yield []
    yield rows[::-1]
    for at, row in enumerate(rows):
        yield rows[:at] + rows[at + 1:]
        yield rows[:at] + rows[at:at + 1] + rows[at:]
        yield rows[:at] + [row[1:]] + rows[at + 1:]
        yield rows[:at] + [row[:-1]] + rows[at + 1:]
        yield rows[:at] + [row + row[:1]] + rows[at + 1:]
        yield rows[:at] + [row + (rooms[0],)] + rows[at + 1:]
        yield rows[:at] + [()] + rows[at + 1:]
        for place in range(len(row)):
            for room in rooms + ["shed", ""]:
                yield rows[:at] + [row[:place] + (room,) + row[place + 1:]] + rows[at + 1:]


class IsTogether(unittest.TestCase):
    def check(self, plain, wishes, begin, rows):
        starts, goals = ends(wishes)
        known = all(room in plain.rooms for row in rows for room in row)
        expected = known and joint.is_joint(plain, starts, goals, begin, rows)
        self.assertIs(is_together(plain.scene, wishes, begin, rows), expected, rows)
        return expected

    def test_told_and_bent(self):
        found = []
        for plain in PLAINS:
            for wishes in wishes_of(plain.rooms):
                for begin in (0, 3, FAR):
                    told = together(plain.scene, wishes, begin)
                    if told[0] == "way":
                        found += [self.check(plain, wishes, begin, rows) for rows in bent(plain.rooms, told[1])]
                        found.append(self.check(plain, wishes, begin + plain.wheel() * (begin < 9), told[1]))
        self.assertGreater(found.count(True), 50)
        self.assertGreater(found.count(False), 500)

    def test_by_hand(self):
        ring = Scene(House(tuple("abcd"), pairs("ab bc cd da")))
        wishes = [("a", "c"), ("b", "d")]
        self.assertIs(is_together(ring, wishes, 0, [("a", "b"), ("b", "c"), ("c", "d")]), True)
        self.assertIs(is_together(ring, wishes, FAR, [("a", "b"), ("d", "c"), ("c", "b"), ("c", "a"), ("c", "d")]),
                      True)
        self.assertIs(is_together(ring, wishes, FAR, [("a", "b"), ("d", "c"), ("c", "d")]), False)
        # Of whatever beats: once round, and by the goals.
        rounds = [tuple("abcd"[(at + more) % 4] for more in (0, 1)) for at in range(7)]
        self.assertIs(is_together(ring, wishes, 5, rounds), True)
        self.assertIs(is_together(ring, wishes, 5, rounds[:3]), True)
        self.assertIs(is_together(ring, wishes, 5, rounds[:4]), False)
        # Against each other through one door, and into one room.
        self.assertIs(is_together(ring, [("a", "b"), ("b", "a")], 0, [("a", "b"), ("b", "a")]), False)
        self.assertIs(is_together(ring, [("a", "b"), ("b", "b")], 0, [("a", "b"), ("b", "b")]), False)
        self.assertIs(is_together(ring, [("a", "a"), ("a", "b")], 0, [("a", "a"), ("a", "b")]), False)
        self.assertIs(is_together(ring, [("a", "a"), ("a", "b")], 0, [("a", "b")]), False)

    def test_three_against_each_other(self):
        every = Scene(House(tuple("abcd"), pairs("ab ac ad bc bd cd")))
        for row in itertools.permutations("abcd", 3):
            rows = [("a", "b", "c"), row]
            crossing = any(rows[0][one] == row[two] and rows[0][two] == row[one]
                           for one, two in ((0, 1), (0, 2), (1, 2)))
            self.assertIs(is_together(every, list(zip("abc", row)), 0, rows), not crossing, row)

    def test_seen_or_barred(self):
        plain = Plain(tuple("abc"), pairs("ab bc ca"), (), (("post", tuple("ab"), 0),), (("bearer", 0),))
        # At beat 1 the post goes from a to b, at beat 2 back.
        self.assertIs(is_together(plain.scene, [("b", "a")], 0, [("b",), ("a",)]), False)
        self.assertIs(is_together(plain.scene, [("b", "b")], 0, [("b",), ("b",)]), False)
        self.assertIs(is_together(plain.scene, [("b", "c")], 0, [("b",), ("c",)]), True)
        self.assertIs(is_together(plain.scene, [("a", "c")], 0, [("a",), ("c",)]), False)
        self.assertIs(is_together(plain.scene, [("b", "a"), ("c", "c")], 0, [("b", "c"), ("a", "c")]), False)
        self.assertIs(is_together(plain.scene, [("b", "c"), ("c", "a")], 0, [("b", "c"), ("c", "a")]), True)


class Refused(Refusing):
    SCENE = Scene(House(tuple("abc"), pairs("ab bc")), (("post", tuple("ab"), 0),), (("bearer", 0),))

    def check(self, kind, value, wishes, begin):
        for row in (tuple, list):
            self.check_refused(kind, value, together, self.SCENE, row(wishes), begin)
            for rows in ([], [("shed",)], [("a", "b")]):
                self.check_refused(kind, value, is_together, self.SCENE, row(wishes), begin, rows)

    def test_none_or_more_than_three(self):
        for begin in (0, FAR + 1):
            self.check(Full, None, [], begin)
            for many in (4, 5, 8):
                self.check(Full, None, [("a", "b")] * many, begin)
                self.check(Full, None, [("shed", "barn")] * many, begin)

    def test_strangers_pair_by_pair(self):
        for name in STRANGERS + ("post", "bearer"):
            for begin in (0, FAR + 1):
                self.check(NoRoom, name, [(name, "a")], begin)
                self.check(NoRoom, name, [("a", name)], begin)
                self.check(NoRoom, name, [("a", name), ("barn", "a")], begin)
                self.check(NoRoom, name, [("a", "b"), (name, "barn"), ("barn", "barn")], begin)
                self.check(NoRoom, name, [("a", "b"), ("a", "b"), ("c", name)], begin)

    def test_beats_beyond(self):
        for beat in BEYOND:
            self.check(BadNumber, beat, [("a", "b")], beat)
            self.check(BadNumber, beat, [("a", "b"), ("a", "a"), ("b", "b")], beat)
        for beat in (FAR, -FAR):
            together(self.SCENE, [("a", "b")], beat)
            is_together(self.SCENE, [("a", "b")], beat, [])


# Of 4 posts, relieved after 4 beats each, this wheel is 160.
BY_FIVES = (("p", tuple("bbaba"), 0), ("q", tuple("aabbb"), 0), ("r", tuple("bbaa"), 0), ("s", ("b",), 0))


def line(rooms, posts, watchers, **rule):
    """A scene of so many rooms in a line."""
    names = tuple("abcdefgh"[:rooms])
    return Scene(House(names, list(zip(names, names[1:]))), posts, [(name, 0) for name in "uvwxyz"[:watchers]], **rule)


def standing(rooms, sizes):
    """A scene of so many rooms in a line, in the first of which posts stand on rounds of these sizes."""
    return line(rooms, [(name, ("a",) * size, 0) for name, size in zip("pqrst", sizes)], len(sizes))


class Great(Refusing):
    WISHES = [("c", "c"), ("d", "d"), ("e", "e")]

    def check_too_great(self, scene, walkers, many):
        wishes = self.WISHES[:walkers]
        rows = tuple(room for room, goal in wishes)
        self.assertEqual(len(scene.house()) ** walkers * scene.wheel(), many)
        self.check_refused(TooGreat, many, together, scene, wishes, 0)
        self.check_refused(TooGreat, many, together, scene, [("c", "d")] * walkers, -FAR)
        self.check_refused(NoRoom, "shed", together, scene, wishes[1:] + [("a", "shed")], 0)
        self.check_refused(BadNumber, FAR + 1, together, scene, wishes, FAR + 1)
        self.assertIs(is_together(scene, wishes, 0, [rows]), True)
        self.assertIs(is_together(scene, wishes, 0, [rows, rows, rows]), True)
        self.assertIs(is_together(scene, wishes, 0, [rows[::-1]] if walkers > 1 else []), False)

    def test_just_the_bound(self):
        scene = line(5, BY_FIVES, 5, meet=True, relief=4)
        self.assertEqual(scene.wheel(), 160)
        self.assertEqual(together(scene, self.WISHES, 0), ("way", [("c", "d", "e")]))
        self.assertEqual(together(scene, [("c", "c"), ("d", "e"), ("e", "d")], 0)[0], "closed")
        self.assertEqual(together(scene, [("c", "d"), ("d", "e")], FAR), ("way", [("c", "d"), ("d", "e")]))

    def test_beyond_the_bound(self):
        self.check_too_great(line(6, BY_FIVES, 5, meet=True, relief=4), 3, 34560)
        self.check_too_great(standing(7, (5, 4, 3)), 3, 20580)
        self.check_too_great(standing(8, (5, 4, 3)), 3, 30720)
        self.check_too_great(line(8, [("p", ("a",) * 5, 0)], 2, relief=4), 3, 20480)
        self.check_too_great(line(8, BY_FIVES, 6, meet=True, relief=4), 2, 64 * 400)

    def test_below_the_bound(self):
        self.assertEqual(together(standing(8, (6, 5)), self.WISHES, 0)[0], "way")
        self.assertEqual(together(standing(6, (6, 5, 4)), self.WISHES, 0)[0], "way")
        self.assertEqual(together(standing(8, (6, 5, 4)), self.WISHES[:2], 0)[0], "way")
        # 8 rooms to the power of 3, times 30, all behind doors of each other but for one that is lit.
        names = tuple("abcdefgh")
        scene = Scene(House(names, list(itertools.combinations(names, 2))),
                      [("p", ("a",) * 6, 0), ("q", ("a",) * 5, 0)], [("u", 0), ("v", 0)])
        word, cells = together(scene, [("b", "c"), ("c", "b"), ("d", "a")], 0)
        self.assertEqual((word, len(cells)), ("closed", 7 * 6 * 5 * 30))


if __name__ == "__main__":
    unittest.main()
