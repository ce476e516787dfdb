"""The fewest posts that bar all ways, held against all choices of posts."""

import itertools
import unittest

from darkthread.bars import fewest, is_bar
from darkthread.errors import NoPost
from darkthread.house import House
from tests.guarded import Guarded, told_alike
from tests.plain import Plain, pairs, some_plains
from tests.refusing import BEYOND, FAR, STRANGERS, Refusing

# From s to g four rooms lead side by side; in each of them a post stands.
SIDE = House(tuple("sabcdg"), pairs("sa sb sc sd ag bg cg dg"), pairs("ab cd"))
STANDING = tuple((f"at{room}", (room,), 0) for room in "abcd")


def guardeds():
    """Scenes by chance, of none to five posts, with short and long lamps."""
    found = []
    for posts in (0, 1, 2):
        found += some_plains(6, rooms=4, doors=40, sights=20, posts=posts, watchers=posts, sizes=(1, 2, 3))
    found += some_plains(14, rooms=5, doors=25, sights=10, posts=3, watchers=3, sizes=(1, 1, 2, 3))
    found += some_plains(8, rooms=6, ring=True, doors=5, sights=10, posts=4, watchers=4, sizes=(1, 1, 2))
    found += some_plains(5, rooms=5, ring=True, doors=10, sights=20, posts=5, watchers=5, sizes=(1, 2))
    for lamps in ((0, 0, 0, 0), (0, 1, 1, 0), (1, 0, 0, 0), (1, 0, 1, 0)):
        found.append(Plain(SIDE.rooms(), SIDE.doors(), SIDE.sights(), STANDING,
                           [(name, reach) for (name, rooms, delay), reach in zip(STANDING, lamps)]))
    return [Guarded(plain) for plain in found]


GUARDEDS = guardeds()


def ends(rooms):
    first, second, middle, last = rooms[0], rooms[1], rooms[len(rooms) // 2], rooms[-1]
    return (([first], [middle]), ([first], [last]), ([second, first], [last]), ([last], [last]), ([], [first]),
            ([first], []), ([first, first, middle], [last, second]))


def asked():
    for guarded in GUARDEDS:
        for starts, goals in ends(guarded.plain.rooms):
            yield guarded, starts, goals


def told_of(guarded, starts, goals):
    return fewest(guarded.house, guarded.posts, guarded.reaches, starts, goals)


class Fewest(unittest.TestCase):
    def check_open(self, guarded, starts, goals, told):
        word, beat, rooms = told
        self.assertEqual((word, type(told), type(beat), type(rooms)), ("open", tuple, int, tuple))
        self.assertTrue(guarded.is_path(starts, goals, beat, rooms))
        self.assertTrue(guarded.leaves([(beat, rooms)], guarded.names))

    def check_bars(self, guarded, starts, goals, told, least):
        word, names, ways = told
        self.assertEqual((word, type(told), type(names), type(ways)), ("bars", tuple, tuple, list))
        self.assertEqual(len(names), least)
        self.assertEqual(list(names), [name for name in guarded.names if name in names])
        self.assertTrue(guarded.bars(starts, goals, names))
        for told_way in ways:
            self.assertEqual([type(told_way), *map(type, told_way)], [tuple, int, tuple])
            self.assertTrue(guarded.is_path(starts, goals, *told_way))
        for chosen in guarded.fewer(len(names)):
            self.assertTrue(guarded.leaves(ways, chosen))
        if least == 0:
            self.assertEqual(ways, [])
        self.assertIs(is_bar(guarded.house, guarded.posts, guarded.reaches, starts, goals, names, ways), True)

    def test_held_against_all_choices(self):
        found = []
        for guarded, starts, goals in asked():
            least = guarded.least_many(starts, goals)
            told = told_of(guarded, starts, goals)
            if least is None:
                self.check_open(guarded, starts, goals, told)
            else:
                self.check_bars(guarded, starts, goals, told, least)
            found.append(least)
        for least in (None, 0, 1, 2):
            self.assertGreater(found.count(least), 5, least)
        self.assertGreater(found.count(3), 0)
        self.assertGreater(found.count(4), 0)

    def test_side_by_side(self):
        names = tuple(name for name, rooms, delay in STANDING)
        told = fewest(SIDE, STANDING, (0, 0, 0, 0), ["s"], ["g"])
        self.assertEqual(told[:2], ("bars", names))
        self.assertTrue({rooms[1] for beat, rooms in told[2]} >= set("abcd"))
        # With a long lamp one bars two of the rooms.
        self.assertEqual(fewest(SIDE, STANDING, (1, 0, 0, 0), ["s"], ["g"])[:2], ("bars", ("ata", "atc", "atd")))
        self.assertEqual(fewest(SIDE, STANDING, (1, 1, 1, 0), ["s"], ["g"])[:2], ("bars", ("ata", "atc")))
        self.assertEqual(fewest(SIDE, STANDING, (0, 1, 0, 1), ["s"], ["g"])[:2], ("bars", names))
        # One in the goal alone will do.
        both = STANDING + (("ing", ("g",), 0),)
        self.assertEqual(fewest(SIDE, both, (0,) * 5, ["s"], ["g"])[:2], ("bars", ("ing",)))
        self.assertEqual(fewest(SIDE, both, (0,) * 5, ["s"], ["g", "s"])[0], "open")

    def test_open_where_one_room_is_left(self):
        told = fewest(SIDE, STANDING[:3], (0, 0, 0), ["s"], ["g"])
        self.assertEqual(told[:1] + told[2:], ("open", ("s", "d", "g")))
        self.assertEqual(fewest(SIDE, (), (), ["s"], ["s"])[2], ("s",))

    def test_nothing_to_bar(self):
        for starts, goals in (([], ["g"]), (["s"], []), ([], [])):
            self.assertEqual(fewest(SIDE, STANDING, (0, 1, 0, 1), starts, goals), ("bars", (), []))
            self.assertEqual(fewest(SIDE, (), (), starts, goals), ("bars", (), []))
        self.assertEqual(fewest(House(), (), (), (), ()), ("bars", (), []))
        self.assertEqual(fewest(House(("a", "b")), (("p", ("a",), 0),), (1,), ["a"], ["b"]), ("bars", (), []))

    def test_one_post_more_never_makes_it_more(self):
        for guarded, starts, goals in asked():
            for many in range(len(guarded.posts)):
                less = fewest(guarded.house, guarded.posts[:many], guarded.reaches[:many], starts, goals)
                more = fewest(guarded.house, guarded.posts[:many + 1], guarded.reaches[:many + 1], starts, goals)
                if less[0] == "bars":
                    self.assertEqual(more[0], "bars")
                    self.assertLessEqual(len(more[1]), len(less[1]))

    def test_a_longer_lamp_never_makes_it_more(self):
        fewer = 0
        for guarded, starts, goals in asked():
            for at in range(len(guarded.posts)):
                lamps = [guarded.reaches[:at] + [reach] + guarded.reaches[at + 1:] for reach in (0, 1)]
                short, long = [fewest(guarded.house, guarded.posts, lamp, starts, goals) for lamp in lamps]
                if short[0] == "bars":
                    self.assertEqual(long[0], "bars")
                    self.assertLessEqual(len(long[1]), len(short[1]))
                fewer += short[0] == "open" and long[0] == "bars"
        self.assertGreater(fewer, 3)


class Alike(unittest.TestCase):
    def test_the_same_asked_again(self):
        for guarded, starts, goals in asked():
            first = told_of(guarded, starts, goals)
            self.assertEqual(told_alike(fewest, guarded, starts, goals), [first] * 3)

    def test_told_lists_changed(self):
        first = fewest(SIDE, STANDING, (1, 0, 0, 0), ["s"], ["g"])
        kept = list(first[2])
        first[2].clear()
        self.assertEqual(fewest(SIDE, STANDING, (1, 0, 0, 0), ["s"], ["g"]), first[:2] + (kept,))
        self.assertGreater(len(kept), 0)

    def test_rows_stay_as_they_were(self):
        posts, reaches, starts, goals = [(name, list(rooms), 0) for name, rooms, delay in STANDING], [0, 1, 1, 0], \
            ["s", "s"], ["g", "a", "g"]
        names, ways = ["ata", "atb", "atc"], [(0, ["s", "d", "g"])]
        fewest(SIDE, posts, reaches, starts, goals)
        is_bar(SIDE, posts, reaches, starts, goals, names, ways)
        self.assertEqual((posts, reaches, starts, goals, names, ways),
                         ([(name, list(rooms), 0) for name, rooms, delay in STANDING], [0, 1, 1, 0], ["s", "s"],
                          ["g", "a", "g"], ["ata", "atb", "atc"], [(0, ["s", "d", "g"])]))


def bent(guarded, ways):
    """Lists of ways that come from one by leaving out, doubling or bending a way."""
    rooms = guarded.plain.rooms
    yield []
    yield list(reversed(ways))
    for at, (beat, row) in enumerate(ways):
        yield ways[:at] + ways[at + 1:]
        yield ways[:at] + ways[at:at + 1] + ways[at:]
        for other in ((beat + 1, row), (beat - 60, row), (beat, row[:-1]), (beat, row[1:]), (beat, row + row[-1:]),
                      (beat, row[:1] + row), (beat, row[::-1]), (beat, ()), (beat, row + (rooms[0],)),
                      (beat, row[:1] + (rooms[2],) + row[1:]), (beat, ("shed",)), (beat, row + ("shed",))):
            yield ways[:at] + [other] + ways[at + 1:]


class IsBar(unittest.TestCase):
    def check(self, guarded, starts, goals, names, ways):
        told = is_bar(guarded.house, guarded.posts, guarded.reaches, starts, goals, names, ways)
        self.assertIs(told, guarded.is_bar(starts, goals, names, ways), (names, ways))
        return told

    def test_told_names_and_others(self):
        found = []
        for guarded, starts, goals in asked():
            told = told_of(guarded, starts, goals)
            ways = told[2] if told[0] == "bars" else [told[1:]]
            for names in guarded.fewer(len(guarded.names) + 1):
                found.append(self.check(guarded, starts, goals, names, ways))
        self.assertGreater(found.count(True), 100)
        self.assertGreater(found.count(False), 100)

    def test_told_names_in_another_order_and_twice(self):
        names = ("ata", "atc", "atd")
        ways = fewest(SIDE, STANDING, (1, 0, 0, 0), ["s"], ["g"])[2]
        for row in itertools.permutations(names):
            self.assertIs(is_bar(SIDE, STANDING, (1, 0, 0, 0), ["s"], ["g"], row, ways), True)
        every = [(0, ("s", room, "g")) for room in "abcd"]
        for at in range(3):
            twice = names[:at] + names[at:at + 1] + names[at:]
            self.assertIs(is_bar(SIDE, STANDING, (1, 0, 0, 0), ["s"], ["g"], twice, ways), False)
            self.assertIs(is_bar(SIDE, STANDING, (1, 0, 0, 0), ["s"], ["g"], twice, every), False)

    def test_ways_told_and_bent(self):
        found = []
        for guarded, starts, goals in asked():
            told = told_of(guarded, starts, goals)
            if told[0] == "bars":
                for ways in bent(guarded, told[2][:4] + told[2][-3:]):
                    found.append(self.check(guarded, starts, goals, told[1], ways))
        self.assertGreater(found.count(True), 50)
        self.assertGreater(found.count(False), 50)

    def test_by_hand(self):
        row = House(tuple("sag"), pairs("sa ag"))
        post = (("ata", ("a",), 0),)
        for ways, told in (([(0, ("s", "a", "g"))], True), ([], False), ([(7, ("s", "a", "a", "a", "g"))], True),
                           ([(FAR, ("s", "a", "g"))], True), ([(-FAR, ("s", "s", "a", "g"))], True),
                           ([(0, ())], False), ([(0, ("s", "g"))], False), ([(0, ("s", "a"))], False),
                           ([(0, ("a", "g"))], False), ([(0, ("s", "shed", "g"))], False),
                           ([(0, ("s", "a", "g")), (0, ())], False), ([(0, ("s", "a", "g")), (3, ("s", "g"))], False),
                           ([(0, ["s", "a", "g"]), (0, ("s", "a", "s", "a", "g"))], True)):
            self.assertIs(is_bar(row, post, (0,), ["s"], ["g"], ("ata",), ways), told, ways)
            self.assertIs(is_bar(row, post, (0,), ["s"], ["g"], (), ways), False)
        # Of four rooms side by side two are left.
        self.assertIs(is_bar(SIDE, STANDING[:2], (0, 0), ["s"], ["g"], ("ata", "atb"),
                             [(0, ("s", "a", "g")), (0, ("s", "b", "g"))]), False)

    def test_other_starts_and_goals(self):
        row = House(tuple("sag"), pairs("sa ag"))
        post = (("ata", ("a",), 0),)
        ways = [(0, ("s", "a", "g"))]
        for starts, goals, told in (("s", "g", True), ("sa", "g", True), ("s", "ga", True), ("a", "g", False),
                                    ("s", "a", False), ("", "g", False), ("s", "", False), ("g", "s", False),
                                    ("sg", "g", False), ("s", "gs", False)):
            self.assertIs(is_bar(row, post, (1,), list(starts), tuple(goals), ["ata"], ways), told, (starts, goals))

    def test_a_room_that_a_start_has_but_no_house(self):
        self.assertIs(is_bar(House(("a", "b"), (("a", "b"),)), (("p", ("b",), 0),), (0,), ["a"], ["b"], ("p",),
                             [(0, ("a", "shed", "b")), (0, ("a", "b"))]), False)

    def test_seen_or_not_a_way_needs_doors_alone(self):
        # The second way is seen by each choice of posts but the empty one: it may stand there.
        row = House(tuple("sag"), pairs("sa ag"))
        posts = (("ata", ("a",), 0), ("ats", ("s",), 0))
        ways = [(0, ("s", "a", "g"))]
        self.assertIs(is_bar(row, posts, (0, 0), ["s"], ["g"], ("ata",), ways), True)
        self.assertIs(is_bar(row, posts, (0, 0), ["s"], ["g"], ("ats",), ways), True)
        self.assertIs(is_bar(row, posts, (0, 0), ["s"], ["g"], ("ats", "ata"), ways), False)

    def test_beats_beyond_are_none(self):
        row = House(tuple("sag"), pairs("sa ag"))
        for beat in BEYOND:
            self.assertIs(is_bar(row, (("ata", ("a",), 0),), (0,), ["s"], ["g"], ("ata",),
                                 [(0, ("s", "a", "g")), (beat, ("s", "a", "g"))]), False)
            self.assertIs(is_bar(row, (("ata", ("a",), 0),), (0,), ["s"], ["g"], ("ata",),
                                 [(beat, ("s", "a", "g"))]), False)

    def test_by_lists_and_by_name(self):
        for row in (list, tuple):
            told = fewest(SIDE, row(STANDING), row((1, 0, 0, 0)), row("s"), row("g"))
            self.assertIs(is_bar(ways=told[2], names=told[1], goals=row("g"), starts=row("s"),
                                 reaches=row((1, 0, 0, 0)), posts=row(STANDING), house=SIDE), True)


class NoSuchPost(Refusing):
    def test_ahead_of_all_that_is_looked_at_in_ways(self):
        for name in STRANGERS + ("s", "a"):
            for ways in ([], [(0, ())], [(FAR + 1, ("s",))], [(0, ("shed",))]):
                for names in ((name,), ("ata", name), ("ata", "ata", name), (name, "ata", "other"), (name, name)):
                    self.check_refused(NoPost, name, is_bar, SIDE, STANDING, (0, 0, 0, 0), ["s"], ["g"], names, ways)


class Plainly(unittest.TestCase):
    def test_two_on_rounds(self):
        # Each looks into a at every other beat: alone each leaves a way, both leave none.
        plain = Plain(tuple("saxg"), pairs("sa ax ag"), pairs("xa"),
                      (("one", tuple("ax"), 0), ("two", tuple("ax"), 1)), (("one", 0), ("two", 0)))
        guarded = Guarded(plain)
        self.assertEqual(guarded.least_many(["s"], ["g"]), 2)
        told = fewest(guarded.house, guarded.posts, (0, 0), ["s"], ["g"])
        self.assertEqual(told[:2], ("bars", ("one", "two")))
        self.assertEqual(fewest(guarded.house, guarded.posts, (0, 1), ["s"], ["g"])[:2], ("bars", ("two",)))


if __name__ == "__main__":
    unittest.main()
