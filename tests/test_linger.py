"""Staying unseen, held against going on with all rooms at once, and what shows it."""

import unittest

from darkthread.errors import BadNumber, NoRoom
from darkthread.house import House
from darkthread.linger import is_ever, is_most, linger
from darkthread.scene import Scene
from tests.plain import Plain, pairs, some_plain, some_plains
from tests.refusing import BEYOND, FAR, STRANGERS, Refusing

RING = Plain(tuple("abcd"), pairs("ab bc cd da"), (), (("post", tuple("abcd"), 0),), (("bearer", 0),))
# A line whose post sweeps every room, from end to end: nobody can stay there.
SWEEP = Plain(tuple("abcd"), pairs("ab bc cd"), (), (("post", tuple("abcdcb"), 0),), (("bearer", 0),))
BEATS = (0, 1, 2, 3, -1, -8, 30, FAR, FAR - 1, -FAR)


def plains():
    for meet in (False, True):
        for relief in (0, 1, 2, 3):
            yield from some_plains(4, rooms=4, doors=50, sights=35, posts=3, watchers=4, meet=meet, relief=relief)
    yield from some_plains(6, rooms=4, doors=50, sights=50, posts=2, watchers=2, sizes=(3, 4, 5))
    yield from some_plains(2, rooms=3, doors=40, posts=0, watchers=1)
    yield RING
    yield SWEEP


class Linger(unittest.TestCase):
    def check(self, plain, room, beat):
        """What is told, as it is due; its first word."""
        told = linger(plain.scene, room, beat)
        longest = plain.longest(room, beat % plain.wheel())
        self.assertIs(type(told), tuple)
        if longest is None:
            self.assertEqual(told, ("seen",))
        elif longest == -1:
            self.check_ever(plain, room, beat, told)
        else:
            self.check_most(plain, room, beat, told, longest)
        return told[0]

    def check_ever(self, plain, room, beat, told):
        word, lead, ring = told
        self.assertEqual((word, type(lead), type(ring)), ("ever", tuple, tuple))
        self.assertIs(is_ever(plain.scene, room, beat, lead, ring), True)
        self.assertEqual(len(ring) % plain.wheel(), 0)
        self.assertGreater(len(ring), 0)
        walk = lead + ring + ring + ring
        self.assertEqual(walk[0], room)
        self.assertTrue(plain.is_walk(beat % plain.wheel(), walk))

    def check_most(self, plain, room, beat, told, longest):
        word, rooms, ranks = told
        self.assertEqual((word, type(rooms), type(ranks)), ("most", tuple, list))
        self.assertIs(is_most(plain.scene, room, beat, rooms, ranks), True)
        self.assertEqual((len(rooms) - 1, rooms[0]), (longest, room))
        self.assertTrue(plain.is_walk(beat % plain.wheel(), rooms))
        cells = [(name, rest) for name, rest, rank in ranks]
        self.assertEqual(len(cells), len(set(cells)))
        self.assertTrue(all(name in plain.rooms and 0 <= rest < plain.wheel() and rank >= 0
                            for name, rest, rank in ranks))
        self.assertIn((room, beat % plain.wheel(), longest), ranks)
        self.assertTrue(plain.is_ranked(ranks))

    def test_by_hand(self):
        self.assertEqual(linger(RING.scene, "a", 0), ("seen",))
        self.assertEqual(linger(RING.scene, "a", 1)[0], "ever")
        # At the end of the line one waits until the post comes, which is in d at beat 3.
        told = linger(SWEEP.scene, "d", 0)
        self.assertEqual(told[0], "most")
        self.assertIn(told[1], (("d", "d", "d"), ("d", "c", "d")))
        self.assertEqual(sorted(told[2]), [("c", 1, 1), ("d", 0, 2), ("d", 1, 1), ("d", 2, 0)])
        self.assertEqual(linger(SWEEP.scene, "d", 2), ("most", ("d",), [("d", 2, 0)]))

    def test_held_against_going_on(self):
        words = [self.check(plain, room, beat) for plain in plains() for room in plain.rooms for beat in BEATS]
        for word in ("seen", "ever", "most"):
            self.assertGreater(words.count(word), 150)

    def test_each_beat_of_a_wheel(self):
        for plain in (RING, SWEEP, some_plain(1, posts=3, watchers=4, meet=True, relief=2)):
            for beat in range(-plain.wheel(), plain.wheel()):
                for room in plain.rooms:
                    self.check(plain, room, beat)

    def test_long_stays(self):
        longest = 0
        for plain in some_plains(40, rooms=6, ring=True, doors=10, sights=10, posts=3, watchers=4, sizes=(2, 3, 4),
                                 meet=True, relief=2):
            for room in plain.rooms:
                told = linger(plain.scene, room, 0)
                if told[0] == "most":
                    longest = max(longest, len(told[1]) - 1)
                    self.check(plain, room, 0)
        self.assertGreater(longest, 8)

    def test_a_lead_ahead_of_the_ring(self):
        # Room x is dark at each third beat alone, and whoever comes back to it then is barred or seen.
        plain = Plain(tuple("wxyvz"), pairs("wx xy yv vx yz"), pairs("xv"),
                      (("one", tuple("wxx"), 0), ("two", tuple("yvx"), 0)), (("long", 1), ("short", 0)))
        self.assertEqual(self.check(plain, "x", 0), "ever")
        word, lead, ring = linger(plain.scene, "x", 0)
        self.assertEqual(lead[0], "x")
        self.assertNotIn("x", ring)

    def test_without_posts(self):
        scene = Scene(House(("a", "b"), pairs("ab")))
        self.assertEqual(linger(scene, "a", 5), ("ever", (), ("a",)))
        self.assertEqual(linger(Scene(House(("a",))), "a", -FAR), ("ever", (), ("a",)))

    def test_the_same_asked_again(self):
        for plain in plains():
            again = Scene(plain.house, plain.posts, plain.watchers, meet=plain.meet, relief=plain.relief)
            for room in plain.rooms:
                for beat in (0, 3, -FAR):
                    first = linger(plain.scene, room, beat)
                    self.assertEqual(linger(plain.scene, room, beat), first)
                    self.assertEqual(linger(beat=beat, room=room, scene=again), first)

    def test_told_lists_changed(self):
        first = linger(SWEEP.scene, "d", 0)
        kept = list(first[2])
        first[2].clear()
        self.assertEqual(linger(SWEEP.scene, "d", 0)[2], kept)


class IsEver(unittest.TestCase):
    def test_by_hand(self):
        # In a at beat 0 the post goes round a b c d; c d a b keeps opposite of it.
        scene = RING.scene
        self.assertIs(is_ever(scene, "c", 0, (), tuple("cdab")), True)
        self.assertIs(is_ever(scene, "c", 0, (), tuple("cdabcdab")), True)
        self.assertIs(is_ever(scene, "c", 0, tuple("c"), tuple("dabc")), True)
        self.assertIs(is_ever(scene, "c", 0, tuple("cdabcda"), tuple("bcda")), True)
        self.assertIs(is_ever(scene, "c", 4 - FAR, list("cd"), list("abcd")), True)
        self.assertIs(is_ever(scene, "c", FAR, (), tuple("cdab")), True)
        # Some stay a while, so they come nearer to the post from ahead: behind the ring all must fit again.
        self.assertIs(is_ever(scene, "c", 0, tuple("cc"), tuple("dabc")), True)
        self.assertIs(is_ever(scene, "c", 0, (), tuple("ccda")), False)

    def test_rings_of_another_length(self):
        for size in range(1, 14):
            ring = (tuple("cdab") * 4)[:size]
            self.assertIs(is_ever(RING.scene, "c", 0, (), ring), size % 4 == 0)

    def test_a_wheel_that_is_longer_than_the_round(self):
        # The lamps change by relief: what keeps to the round alone is seen a round later.
        plain = Plain(tuple("abc"), pairs("ab bc ca"), pairs("ac"), (("post", ("a",), 0),),
                      (("short", 0), ("long", 1)), relief=1)
        self.assertEqual(plain.scene.wheel(), 2)
        self.assertIs(is_ever(plain.scene, "c", 0, (), ("c",)), False)
        self.assertIs(is_ever(plain.scene, "c", 0, (), ("c", "b")), True)
        self.assertIs(is_ever(plain.scene, "c", 1, (), ("c", "b")), False)
        self.assertIs(is_ever(plain.scene, "b", 1, (), ("b", "b")), True)

    def test_empty_ones(self):
        for lead in ((), ("c",), tuple("cdab")):
            self.assertIs(is_ever(RING.scene, "c", 0, lead, ()), False)

    def test_another_first_room(self):
        self.assertIs(is_ever(RING.scene, "d", 0, (), tuple("cdab")), False)
        self.assertIs(is_ever(RING.scene, "d", 0, ("c",), tuple("dabc")), False)
        self.assertIs(is_ever(RING.scene, "a", 0, (), tuple("cdab")), False)

    def test_seen_at_once(self):
        self.assertIs(is_ever(RING.scene, "a", 0, (), tuple("abcd")), False)
        self.assertIs(is_ever(RING.scene, "a", 0, ("a",), tuple("dabc")), False)

    def test_bent_ones(self):
        for plain in plains():
            wheel = plain.wheel()
            for room in plain.rooms:
                told = linger(plain.scene, room, 2)
                if told[0] == "ever" and len(told[2]) < 80:
                    self.check_bent(plain, room, wheel, told[1], told[2])

    def check_bent(self, plain, room, wheel, lead, ring):
        whole = lead + ring
        for at in range(0, len(whole), 1 + len(whole) // 10):
            for other in plain.rooms + ["shed"]:
                row = whole[:at] + (other,) + whole[at + 1:]
                due = row[0] == room and plain.is_walk(2 % wheel, row + row[len(lead):])
                self.assertIs(is_ever(plain.scene, room, 2, row[:len(lead)], row[len(lead):]), due)
        self.assertIs(is_ever(plain.scene, room, 2, list(lead), list(ring)), True)
        self.assertIs(is_ever(plain.scene, room, 2, lead, ring + ring), True)
        self.assertIs(is_ever(plain.scene, room, 2, lead + ring, ring), True)
        self.assertIs(is_ever(plain.scene, room, 2, lead + ring[:1], ring[1:] + ring[:1]), True)
        self.assertIs(is_ever(plain.scene, room, 2, lead, ring[:-1]), wheel == 1 and len(ring) > 1)
        for other in plain.rooms:
            if other != room:
                self.assertIs(is_ever(plain.scene, other, 2, lead, ring), False)

    def test_strange_rooms(self):
        for name in STRANGERS:
            self.assertIs(is_ever(RING.scene, "c", 0, (), ("c", "d", "a", name)), False)
            self.assertIs(is_ever(RING.scene, "c", 0, (), (name, "d", "a", "b")), False)
            self.assertIs(is_ever(RING.scene, "c", 0, (name,), tuple("dabc")), False)
            self.assertIs(is_ever(RING.scene, "c", 0, (), (name,)), False)

    def test_rows_stay_as_they_were(self):
        lead, ring = ["c"], list("dabc")
        is_ever(RING.scene, "c", 0, lead, ring)
        self.assertEqual((lead, ring), (["c"], list("dabc")))


class IsMost(unittest.TestCase):
    RANKS = [("d", 0, 2), ("d", 1, 1), ("c", 1, 1), ("d", 2, 0)]

    def told(self, rooms="ddd", ranks=None, room="d", beat=0):
        return is_most(SWEEP.scene, room, beat, tuple(rooms), self.RANKS if ranks is None else ranks)

    def test_by_hand(self):
        self.assertIs(self.told(), True)
        self.assertIs(self.told(rooms="dcd"), True)
        self.assertIs(self.told(beat=6), True)
        self.assertIs(self.told(beat=-6 * 10 ** 8), True)
        self.assertIs(self.told(beat=1), False)
        self.assertIs(is_most(SWEEP.scene, "d", 0, ["d", "d", "d"], tuple(self.RANKS[::-1])), True)

    def test_empty_ones(self):
        self.assertIs(self.told(rooms=""), False)
        self.assertIs(self.told(ranks=[]), False)
        self.assertIs(self.told(rooms="", ranks=[]), False)

    def test_bent_walks(self):
        for rooms in ("d", "dd", "dddd", "ddc", "dcc", "ccc", "cdd", "dad", "aaa", ("d", "d", "shed"),
                      ("shed", "d", "d"), ("d", "", "d")):
            self.assertIs(self.told(rooms=rooms), False)

    def test_a_walk_of_fewer_beats_with_its_own_rank(self):
        # The walk is unseen, but a step leads from its beginning to a cell of a rank that is not lesser.
        for rooms, rank in (("d", 0), ("dd", 1)):
            ranks = [("d", 0, rank)] + self.RANKS[1:]
            self.assertIs(self.told(rooms=rooms, ranks=ranks), False)

    def test_another_first_room(self):
        self.assertIs(self.told(room="c"), False)
        self.assertIs(is_most(SWEEP.scene, "c", 0, ("d", "d", "d"), self.RANKS + [("c", 0, 2)]), False)

    def test_seen_at_once(self):
        self.assertIs(is_most(SWEEP.scene, "a", 0, ("a",), [("a", 0, 0)]), False)
        self.assertIs(is_most(SWEEP.scene, "d", 3, ("d",), [("d", 3, 0)]), False)

    def test_ranks_left_out(self):
        for at in range(len(self.RANKS)):
            self.assertIs(self.told(ranks=self.RANKS[:at] + self.RANKS[at + 1:]), False)

    def test_a_cell_twice(self):
        for cell in self.RANKS:
            self.assertIs(self.told(ranks=self.RANKS + [cell]), False)
            self.assertIs(self.told(ranks=[cell] + self.RANKS), False)
            self.assertIs(self.told(ranks=self.RANKS + [cell[:2] + (cell[2] + 1,)]), False)

    def test_other_ranks(self):
        self.assertIs(self.told(ranks=[("d", 0, 3)] + self.RANKS[1:]), False)
        self.assertIs(self.told(ranks=[("d", 0, 1)] + self.RANKS[1:]), False)
        self.assertIs(self.told(ranks=[("d", 0, 2), ("d", 1, 2), ("c", 1, 1), ("d", 2, 0)]), False)
        self.assertIs(self.told(ranks=[("d", 0, 2), ("d", 1, 1), ("c", 1, 2), ("d", 2, 0)]), False)
        self.assertIs(self.told(ranks=[("d", 0, 2), ("d", 1, 1), ("c", 1, 3), ("d", 2, 0)]), False)
        self.assertIs(self.told(ranks=[("d", 0, 2), ("d", 1, 1), ("c", 1, 0), ("d", 2, 0)]), False)
        self.assertIs(self.told(ranks=[("d", 0, 2), ("d", 1, 1), ("c", 1, 1), ("d", 2, 1)]), False)

    def test_ranks_below_nought(self):
        # From a at beat 5 no step leads anywhere.
        self.assertEqual(SWEEP.steps("a", 5), [])
        self.assertIs(self.told(ranks=self.RANKS + [("a", 5, 0)]), True)
        self.assertIs(self.told(ranks=self.RANKS + [("a", 5, -1)]), False)
        self.assertIs(self.told(ranks=[("d", 0, 2), ("d", 1, 1), ("c", 1, 1), ("d", 2, -1)]), False)

    def test_strange_cells(self):
        for cell in (("shed", 0, 0), ("", 3, 5), ("d", -1, 9), ("d", 6, 9), ("d", 7, 9), ("a", FAR, 9), ("d", -6, 2)):
            self.assertIs(self.told(ranks=self.RANKS + [cell]), False)
            self.assertIs(self.told(ranks=[cell] + self.RANKS), False)

    def test_more_cells_than_there_need_be(self):
        # From b at beat 0 one step is left, to c, whose rank at beat 1 is 1.
        self.assertEqual(SWEEP.steps("b", 0), ["c"])
        for rank in range(6):
            self.assertIs(self.told(ranks=self.RANKS + [("b", 0, rank)]), rank > 1)

    def test_a_lit_cell_with_its_steps(self):
        # At beat 5 the post is in b; of a lit cell as of a dark one each step must lead to one of lesser rank.
        self.assertEqual((SWEEP.lit(5), SWEEP.steps("b", 5)), (["b"], ["b", "c"]))
        ranks = self.RANKS + [("b", 0, 2), ("c", 0, 2)]
        self.assertIs(self.told(ranks=ranks), True)
        for rank in range(6):
            self.assertIs(self.told(ranks=ranks + [("b", 5, rank)]), rank > 2)
            self.assertIs(self.told(ranks=ranks[:-1] + [("b", 5, rank)]), False)

    def test_bent_ones(self):
        for plain in plains():
            for room in plain.rooms:
                told = linger(plain.scene, room, 1)
                if told[0] == "most":
                    self.check_bent(plain, room, told[1], told[2])

    def check_bent(self, plain, room, rooms, ranks):
        wheel = plain.wheel()
        for at, (name, rest, rank) in enumerate(ranks[:8]):
            for other in (rank - 1, rank + 1):
                row = ranks[:at] + [(name, rest, other)] + ranks[at + 1:]
                due = other >= 0 and plain.is_ranked(row) and (room, 1 % wheel, len(rooms) - 1) in row
                self.assertIs(is_most(plain.scene, room, 1, rooms, row), due)
            self.assertIs(is_most(plain.scene, room, 1, rooms, ranks[:at] + ranks[at + 1:]), False)
        for at in range(len(rooms)):
            for other in plain.rooms + ["shed"]:
                row = rooms[:at] + (other,) + rooms[at + 1:]
                self.assertIs(is_most(plain.scene, room, 1, row, ranks),
                              row[0] == room and plain.is_walk(1 % wheel, row))
            self.assertIs(is_most(plain.scene, room, 1, rooms[:at], ranks), False)
        self.assertIs(is_most(plain.scene, room, 1 + wheel, list(rooms), list(ranks)), True)

    def test_one_who_can_stay_for_ever_has_no_ranks(self):
        scene = Scene(House(("a",)))
        for rooms in (("a",), ("a", "a")):
            for rank in range(3):
                self.assertIs(is_most(scene, "a", 0, rooms, [("a", 0, rank)]), False)

    def test_rows_stay_as_they_were(self):
        rooms, ranks = list("ddd"), list(self.RANKS)
        is_most(SWEEP.scene, "d", 0, rooms, ranks)
        self.assertEqual((rooms, ranks), (list("ddd"), self.RANKS))


class Refused(Refusing):
    def asked(self):
        return ((linger, ()), (is_ever, ((), ())), (is_ever, (("shed",), ("shed",))),
                (is_most, ((), ())), (is_most, (("shed",), [("shed", -1, -1)])))

    def test_strangers(self):
        for ask, rest in self.asked():
            for name in STRANGERS + ("post", "bearer"):
                for beat in (0, 3, FAR, -FAR) + BEYOND:
                    self.check_refused(NoRoom, name, ask, RING.scene, name, beat, *rest)

    def test_beats_beyond(self):
        for ask, rest in self.asked():
            for beat in BEYOND:
                self.check_refused(BadNumber, beat, ask, RING.scene, "a", beat, *rest)


if __name__ == "__main__":
    unittest.main()
