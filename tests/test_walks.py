"""Walks unseen, ways and closed lots: which rows and lists show what they should."""

import itertools
import unittest

from darkthread.errors import BadNumber, NoRoom
from darkthread.house import House
from darkthread.scene import Scene
from darkthread.ways import is_closed, is_walk, is_way
from tests.plain import Chance, Plain, pairs, some_plains
from tests.refusing import BEYOND, FAR, STRANGERS, Refusing

# A ring of four rooms that a post with a short lamp goes round.
RING = Plain(tuple("abcd"), pairs("ab bc cd da"), (), (("post", tuple("abcd"), 0),), (("bearer", 0),))


def plains():
    for meet in (False, True):
        for relief in (0, 1, 2):
            yield from some_plains(3, rooms=3, doors=80, posts=1, watchers=2, meet=meet, relief=relief)
    yield from some_plains(4, rooms=4, doors=60, sights=15, posts=2, watchers=3, meet=True, relief=1)
    yield from some_plains(2, rooms=3, doors=60, posts=0, watchers=1)


def bent(rooms, row):
    """The rows that come from a row by exchanging, doubling or leaving out one room."""
    for at in range(len(row)):
        for room in rooms + ["shed", ""]:
            yield row[:at] + (room,) + row[at + 1:]
        yield row[:at] + row[at:at + 1] + row[at:]
        if len(row) > 1:
            yield row[:at] + row[at + 1:]


class IsWalk(Refusing):
    def test_by_hand(self):
        # The post is in a at beat 0; one goes on just opposite of it, or just behind it.
        self.assertIs(is_walk(RING.scene, 0, ("c", "d", "a", "b", "c")), True)
        self.assertIs(is_walk(RING.scene, 0, ("d", "a", "b", "c", "d")), True)
        self.assertIs(is_walk(RING.scene, 0, ("c", "c")), True)
        self.assertIs(is_walk(RING.scene, 0, ("c", "c", "c")), False)
        self.assertIs(is_walk(RING.scene, 0, ("a", "d")), False)
        self.assertIs(is_walk(RING.scene, 0, ("c", "b")), False)
        self.assertIs(is_walk(RING.scene, 0, ("b", "a")), False)
        self.assertIs(is_walk(RING.scene, 0, ("d", "b")), False)
        self.assertIs(is_walk(RING.scene, 1, ("d", "a", "b", "c")), True)

    def test_one_room(self):
        for beat in range(-4, 5):
            for room in "abcd":
                self.assertIs(is_walk(RING.scene, beat, (room,)), RING.dark(room, beat))
            self.assertIs(is_walk(RING.scene, beat, ("shed",)), False)

    def test_all_short_rows_held_against_the_words(self):
        for plain in plains():
            for beat in range(-3, 4):
                for size in (1, 2, 3, 4):
                    for row in itertools.product(plain.rooms[:3], repeat=size):
                        self.assertIs(is_walk(plain.scene, beat, row), plain.is_walk(beat, row))

    def test_walks_and_bent_ones(self):
        for plain in plains():
            for beat in (-7, 0, 5):
                for walk in plain.walks(beat, plain.rooms, 4)[:6]:
                    self.assertIs(is_walk(plain.scene, beat, walk), True)
                    for row in bent(plain.rooms, walk):
                        self.assertIs(is_walk(plain.scene, beat, row), plain.is_walk(beat, row))

    def test_a_stranger_at_each_place(self):
        walk = ("c", "d", "a", "b", "c")
        for at in range(5):
            for name in STRANGERS + ("post",):
                self.assertIs(is_walk(RING.scene, 0, walk[:at] + (name,) + walk[at + 1:]), False)

    def test_a_long_walk(self):
        walk = tuple("cdab") * 60
        self.assertIs(is_walk(RING.scene, 0, walk), True)
        self.assertIs(is_walk(RING.scene, 4, walk), True)
        self.assertIs(is_walk(RING.scene, 2, walk), False)
        self.assertIs(is_walk(RING.scene, 0, walk[:-1] + ("d",)), False)

    def test_beats_beyond_the_last(self):
        for plain in plains():
            wheel = plain.wheel()
            for begin in (FAR, FAR - 1, FAR - 2, -FAR):
                for walk in plain.walks(begin % wheel, plain.rooms, 5)[:4]:
                    self.assertIs(is_walk(plain.scene, begin, walk), True)
                    for row in bent(plain.rooms, walk):
                        self.assertIs(is_walk(plain.scene, begin, row), plain.is_walk(begin % wheel, row))
        self.assertIs(is_walk(RING.scene, FAR, tuple("cdab") * 5), True)

    def test_rows_stay_as_they_were(self):
        row = list("cdabc")
        self.assertIs(is_walk(RING.scene, 0, row), True)
        self.assertEqual(row, list("cdabc"))
        self.assertIs(is_walk(scene=RING.scene, rooms=row, beat=0), True)

    def test_beyond_ahead_of_all_else(self):
        for beat in BEYOND:
            for row in (("c",), ("a",), ("shed",), ("c", "shed"), ("a", "c")):
                self.check_refused(BadNumber, beat, is_walk, RING.scene, beat, row)


class IsWay(Refusing):
    def test_by_hand(self):
        walk = ("c", "d", "a")
        for starts, goals, told in (("c", "a", True), ("bc", "ad", True), ("abcd", "abcd", True), ("a", "c", False),
                                    ("c", "d", False), ("d", "a", False), ("", "a", False), ("c", "", False),
                                    ("cc", "aa", True), ("c", "c", False), ("a", "a", False)):
            for row in (tuple, list):
                self.assertIs(is_way(RING.scene, row(starts), row(goals), 0, row(walk)), told)
        self.assertIs(is_way(RING.scene, ["c"], ["a"], 2, walk), False)

    def test_of_no_beats(self):
        self.assertIs(is_way(RING.scene, ["c"], ["c"], 0, ["c"]), True)
        self.assertIs(is_way(RING.scene, ["a"], ["a"], 0, ["a"]), False)
        self.assertIs(is_way(RING.scene, ["c"], ["d"], 0, ["c"]), False)

    def test_longer_than_the_least(self):
        self.assertIs(is_way(RING.scene, ["c"], ["a"], 0, ("c", "d", "a", "b", "c", "d", "a")), True)

    def test_ways_and_bent_ones(self):
        for plain in plains():
            starts, goals = plain.rooms[:2], plain.rooms[1:]
            for beat in (-5, 0, 3, FAR):
                for walk in plain.walks(beat % plain.wheel(), plain.rooms, 3)[:6]:
                    self.assertIs(is_way(plain.scene, starts, goals, beat, walk),
                                  walk[0] in starts and walk[-1] in goals)
                    for row in bent(plain.rooms, walk):
                        told = (plain.is_walk(beat % plain.wheel(), row) and row[0] in starts and row[-1] in goals)
                        self.assertIs(is_way(plain.scene, starts, goals, beat, row), told)

    def test_refusals_in_their_order(self):
        for name in STRANGERS:
            for beat in (0, FAR + 1):
                self.check_refused(NoRoom, name, is_way, RING.scene, ["a", name], ["barn"], beat, ["shed"])
                self.check_refused(NoRoom, name, is_way, RING.scene, [name, "barn"], ["a"], beat, ["a"])
                self.check_refused(NoRoom, name, is_way, RING.scene, ["a"], ["b", name, "barn"], beat, ["shed"])
                self.check_refused(NoRoom, name, is_way, RING.scene, [], [name], beat, ["c"])
        for beat in BEYOND:
            self.check_refused(BadNumber, beat, is_way, RING.scene, ["a"], ["b"], beat, ["shed"])
            self.check_refused(BadNumber, beat, is_way, RING.scene, [], [], beat, ["a"])

    def test_rows_stay_as_they_were(self):
        starts, goals, row = ["c", "c"], ["a", "a"], ["c", "d", "a"]
        self.assertIs(is_way(RING.scene, starts, goals, 0, row), True)
        self.assertEqual((starts, goals, row), (["c", "c"], ["a", "a"], ["c", "d", "a"]))


class IsClosed(Refusing):
    def reach(self, plain, starts, begin=None):
        """The cells that one comes to unseen from these rooms."""
        wheel = plain.wheel()
        beats = range(wheel) if begin is None else [begin % wheel]
        cells = [(room, beat) for beat in beats for room in plain.begun(starts, beat)]
        for room, rest in cells:
            for other in plain.steps(room, rest):
                if (other, (rest + 1) % wheel) not in cells:
                    cells.append((other, (rest + 1) % wheel))
        return cells

    def check(self, plain, starts, goals, cells, begin=None):
        told = plain.is_closed(starts, goals, cells, begin)
        self.assertIs(is_closed(plain.scene, starts, goals, cells, begin=begin), told)
        self.assertIs(is_closed(plain.scene, tuple(starts), tuple(goals), tuple(cells), begin=begin), told)
        if begin is None:
            self.assertIs(is_closed(plain.scene, starts, goals, cells), told)
        return told

    def test_by_hand(self):
        # A post stands in b between a and c, whose short lamp bars the way.
        scene = Scene(House(tuple("abc"), pairs("ab bc")), (("post", ("b",), 0),), (("bearer", 0),))
        self.assertIs(is_closed(scene, ["a"], ["c"], [("a", 0)]), True)
        self.assertIs(is_closed(scene, ["a"], ["c"], [("a", 0), ("a", 0)]), True)
        self.assertIs(is_closed(scene, ["a"], ["c"], []), False)
        self.assertIs(is_closed(scene, ["a"], ["a"], [("a", 0)]), False)
        self.assertIs(is_closed(scene, ["a"], ["c"], [("a", 1)]), False)
        self.assertIs(is_closed(scene, ["a"], ["c"], [("a", 0), ("c", 0)]), False)
        # A lit cell may be in a closed lot, if all steps from it lead to cells; from b one would come to c.
        self.assertIs(is_closed(scene, ["a"], ["c"], [("a", 0), ("b", 0)]), False)
        self.assertIs(is_closed(scene, ["a"], [], [("a", 0), ("b", 0), ("c", 0)]), True)
        self.assertIs(is_closed(scene, ["b"], ["c"], []), True)
        self.assertIs(is_closed(scene, [], ["a", "b", "c"], []), True)
        self.assertIs(is_closed(scene, ["c"], ["a", "b"], [("c", 0)]), True)

    def test_what_is_reached_is_closed_without_goals(self):
        for plain in plains():
            for begin in (None, 0, 5, -FAR):
                for starts in ([], plain.rooms[:1], plain.rooms[1:], plain.rooms):
                    cells = self.reach(plain, starts, begin)
                    self.assertIs(self.check(plain, starts, [], cells, begin), True)
                    for goal in plain.rooms:
                        self.assertIs(self.check(plain, starts, [goal], cells, begin),
                                      goal not in [room for room, rest in cells])

    def test_cells_left_out_twice_lit_or_strange(self):
        chance = Chance(5)
        for plain in plains():
            wheel = plain.wheel()
            everywhere = [(room, rest) for room in plain.rooms for rest in range(wheel)]
            for begin in (None, 3):
                starts = plain.rooms[:2]
                cells = self.reach(plain, starts, begin)
                for cell in cells[:12]:
                    left = [other for other in cells if other != cell]
                    self.assertIs(self.check(plain, starts, [], left, begin), False)
                    self.assertIs(self.check(plain, starts, [], cells + [cell], begin), True)
                    self.check(plain, [cell[0]], [], left, begin)
                for cell in chance.unlike_of(everywhere, min(len(everywhere), 12)):
                    self.check(plain, starts, [], cells + [cell], begin)
                    self.check(plain, [], [], [cell], begin)
                self.assertIs(self.check(plain, starts, [], everywhere, begin), True)
                for cell in (("shed", 0), ("", 0), ("hall", -1), ("hall", wheel), ("hall", wheel + 3), ("hall", FAR),
                             ("hall", -wheel)):
                    self.assertIs(self.check(plain, starts, [], cells + [cell], begin), False)
                    self.assertIs(self.check(plain, starts, [], [cell] + everywhere, begin), False)

    def test_a_lit_cell_with_its_steps(self):
        # Of a lit cell as of a dark one each step must lead to a cell.
        scene = RING.scene
        cells = [(room, rest) for room in "bcd" for rest in range(4) if RING.dark(room, rest)]
        self.assertIs(is_closed(scene, ["b"], [], cells + [("b", 1)]), False)
        everywhere = [(room, rest) for room in "abcd" for rest in range(4)]
        self.assertIs(is_closed(scene, ["b"], [], everywhere), True)
        dark = [(room, rest) for room, rest in everywhere if RING.dark(room, rest)]
        self.assertIs(is_closed(scene, ["b"], [], dark), True)
        for cell in everywhere:
            self.assertIs(is_closed(scene, ["b"], [], dark + [cell]), True)

    def test_begun_at_a_beat_alone(self):
        # At beat 0 the start is lit, at beat 1 it is dark.
        scene = Scene(House(("a", "b"), pairs("ab")), (("post", ("a", "b"), 0),), (("bearer", 0),))
        self.assertIs(is_closed(scene, ["a"], [], [], begin=0), True)
        self.assertIs(is_closed(scene, ["a"], [], [], begin=-2), True)
        self.assertIs(is_closed(scene, ["a"], [], [], begin=1), False)
        self.assertIs(is_closed(scene, ["a"], [], []), False)
        self.assertIs(is_closed(scene, ["a"], [], [("a", 1)], begin=1), True)
        self.assertIs(is_closed(scene, ["a"], [], [("a", 1)]), True)
        self.assertIs(is_closed(scene, ["a"], ["b"], [("a", 1)]), True)

    def test_far_beginnings(self):
        for plain in plains():
            for begin in (FAR, FAR - 1, -FAR, 1 - FAR):
                cells = self.reach(plain, ["hall"], begin)
                self.assertIs(self.check(plain, ["hall"], [], cells, begin), True)
                self.assertIs(self.check(plain, ["hall"], [], cells[1:], begin), not cells)

    def test_refusals_in_their_order(self):
        scene = RING.scene
        for name in STRANGERS:
            for begin in (None, 0, FAR + 1):
                self.check_refused(NoRoom, name, is_closed, scene, ["a", name], ["barn"], [("shed", 9)], begin=begin)
                self.check_refused(NoRoom, name, is_closed, scene, [name, "barn"], [], [], begin=begin)
                self.check_refused(NoRoom, name, is_closed, scene, ["a"], ["b", name, "barn"], [], begin=begin)
                self.check_refused(NoRoom, name, is_closed, scene, [], [name], [("shed", -1)], begin=begin)
        for beat in BEYOND:
            self.check_refused(BadNumber, beat, is_closed, scene, ["a"], ["b"], [("shed", 9)], begin=beat)
            self.check_refused(BadNumber, beat, is_closed, scene, [], [], [], begin=beat)

    def test_begin_by_name_alone(self):
        with self.assertRaises(TypeError):
            is_closed(RING.scene, ["a"], ["b"], [], 0)

    def test_rows_stay_as_they_were(self):
        cells = [("c", 0), ("c", 0), ("shed", 9)]
        starts, goals = ["c", "c"], ["a", "a"]
        is_closed(RING.scene, starts, goals, cells)
        is_closed(RING.scene, starts, goals, cells[:2], begin=0)
        self.assertEqual((starts, goals, cells), (["c", "c"], ["a", "a"], [("c", 0), ("c", 0), ("shed", 9)]))


if __name__ == "__main__":
    unittest.main()
