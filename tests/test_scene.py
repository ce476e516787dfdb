"""Scenes: what they have, which are equal, and that nothing handed in or told is shared."""

import unittest

from darkthread.errors import NoPost, NoWatcher
from darkthread.house import House
from darkthread.scene import MOST_POSTS, MOST_RELIEF, MOST_WATCHERS, NEVER, Scene
from tests.comparing import Comparing
from tests.refusing import STRANGERS, Refusing

ROOMS = ("hall", "stair", "attic", "den")
DOORS = (("stair", "hall"), ("attic", "stair"), ("den", "attic"))
SIGHTS = (("attic", "den"), ("hall", "stair"))
ROUND = ("hall", "stair", "attic", "stair")
POSTS = (("south", ROUND, 3), ("east", ("den",), 0), ("all", ("attic", "den", "den"), 1))
WATCHERS = (("zoe", 1), ("abe", 0), ("kim", 0), ("bo", 1))


def villa():
    return House(ROOMS, DOORS, SIGHTS)


def scene(house=None, posts=POSTS, watchers=WATCHERS, meet=True, relief=2):
    return Scene(villa() if house is None else house, posts, watchers, meet=meet, relief=relief)


class Told(Refusing):
    def test_greatest_counts(self):
        self.assertEqual((MOST_POSTS, MOST_WATCHERS, MOST_RELIEF, NEVER), (5, 6, 4, 0))
        self.assertEqual([type(count) for count in (MOST_POSTS, MOST_WATCHERS, MOST_RELIEF, NEVER)], [int] * 4)

    def test_names_in_their_order(self):
        self.assertEqual(scene().posts(), ["south", "east", "all"])
        self.assertEqual(scene().watchers(), ["zoe", "abe", "kim", "bo"])
        self.assertEqual(scene(posts=POSTS[::-1]).posts(), ["all", "east", "south"])
        self.assertEqual(scene(watchers=WATCHERS[::-1]).watchers(), ["bo", "kim", "abe", "zoe"])

    def test_rounds_delays_and_reaches(self):
        for name, rooms, delay in POSTS:
            self.assertEqual(scene().rooms_of(name), rooms)
            self.assertEqual(scene().delay_of(name), delay)
        for name, reach in WATCHERS:
            self.assertEqual(scene().reach_of(name), reach)

    def test_house(self):
        self.assertEqual(scene().house(), villa())
        self.assertEqual(scene(house=House(("attic", "den", "hall", "stair"), DOORS)).house().rooms(),
                         ["attic", "den", "hall", "stair"])

    def test_len_and_truth(self):
        for many in range(4):
            told = scene(posts=POSTS[:many])
            self.assertEqual(len(told), many)
            self.assertIs(bool(told), many > 0)

    def test_repr(self):
        self.assertEqual(repr(scene(meet=False, relief=0)), "Scene(3 posts, 4 watchers, wheel 12)")
        self.assertEqual(repr(scene(posts=POSTS[:2], meet=False, relief=0)), "Scene(2 posts, 4 watchers, wheel 4)")
        # Four watchers are relieved in turn at one post: all is as it was behind four reliefs.
        self.assertEqual(repr(scene(posts=POSTS[1:2], meet=False, relief=3)), "Scene(1 posts, 4 watchers, wheel 12)")
        self.assertEqual(repr(scene(posts=())), "Scene(0 posts, 4 watchers, wheel 1)")
        self.assertEqual(repr(Scene(House())), "Scene(0 posts, 0 watchers, wheel 1)")

    def test_nothing_at_all(self):
        for empty in (Scene(House()), Scene(House(), [], []), Scene(House(), (), (), meet=True, relief=4)):
            self.assertEqual((empty.posts(), empty.watchers(), empty.lit(0)), ([], [], []))
            self.assertEqual((empty.span(), empty.turning(), empty.wheel()), (1, (), 1))
            self.assertEqual((len(empty), bool(empty), empty.house()), (0, False, House()))

    def test_kinds_of_values(self):
        told = scene()
        for row in (told.posts(), told.watchers(), told.lit(0), told.steps("hall", 0)):
            self.assertIs(type(row), list)
        for row in (told.rooms_of("south"), told.turning()):
            self.assertIs(type(row), tuple)
        for number in (told.span(), told.wheel(), told.delay_of("south"), told.reach_of("zoe"), *told.turning()):
            self.assertIs(type(number), int)
        self.assertIs(type(told.house()), House)
        self.assertIs(type(told.is_dark("hall", 0)), bool)
        self.assertIs(type(told.barred("hall", "stair", 0)), bool)

    def test_by_place_and_by_name(self):
        self.assertEqual(Scene(relief=2, meet=True, watchers=WATCHERS, posts=POSTS, house=villa()), scene())
        self.assertEqual(Scene(villa(), POSTS, WATCHERS), scene(meet=False, relief=NEVER))
        self.assertEqual(Scene(villa(), watchers=WATCHERS).posts(), [])

    def test_changes_by_name_alone(self):
        with self.assertRaises(TypeError):
            Scene(villa(), POSTS, WATCHERS, True)
        with self.assertRaises(TypeError):
            Scene(villa(), POSTS, WATCHERS, True, 2)

    def test_a_name_is_taken_by_its_own_kind_alone(self):
        told = Scene(villa(), (("hall", ("hall",), 0),), (("hall", 1),))
        self.assertEqual((told.posts(), told.watchers(), told.who("hall", 0)), (["hall"], ["hall"], "hall"))

    def test_greatest_counts_are_taken(self):
        posts = [(name, ["hall", "stair"] * 3, 5) for name in "abcde"]
        watchers = [(name, 1) for name in "uvwxyz"]
        for many in range(6):
            for relief in range(5):
                told = Scene(villa(), posts[:many], watchers, meet=True, relief=relief)
                self.assertEqual((len(told), told.watchers()), (many, list("uvwxyz")))
            self.assertEqual(Scene(villa(), posts[:many], watchers[:many]).watchers(), list("uvwxyz")[:many])

    def test_strangers(self):
        told = scene()
        for name in STRANGERS + ("zoe", "hall"):
            self.check_refused(NoPost, name, told.rooms_of, name)
            self.check_refused(NoPost, name, told.delay_of, name)
        for name in STRANGERS + ("south", "hall"):
            self.check_refused(NoWatcher, name, told.reach_of, name)
        self.check_refused(NoPost, "south", Scene(villa()).rooms_of, "south")
        self.check_refused(NoWatcher, "zoe", Scene(villa()).reach_of, "zoe")


class Copies(unittest.TestCase):
    def test_lists_and_tuples_are_alike(self):
        posts = [(name, list(rooms), delay) for name, rooms, delay in POSTS]
        self.assertEqual(scene(posts=posts, watchers=list(WATCHERS)), scene())

    def test_handed_in_stays_as_it_was(self):
        posts = [(name, list(rooms), delay) for name, rooms, delay in POSTS]
        watchers = list(WATCHERS)
        house = villa()
        scene(house, posts, watchers)
        self.assertEqual(posts, [(name, list(rooms), delay) for name, rooms, delay in POSTS])
        self.assertEqual((watchers, house), (list(WATCHERS), villa()))

    def test_changed_afterwards(self):
        rooms = [list(row) for name, row, delay in POSTS]
        posts = [(name, row, delay) for (name, kept, delay), row in zip(POSTS, rooms)]
        watchers = list(WATCHERS)
        told = scene(posts=posts, watchers=watchers)
        for row in rooms:
            row[0] = "stair"
            row.append("stair")
        posts.reverse()
        posts.pop()
        watchers.clear()
        self.assertEqual(told, scene())
        self.assertEqual((told.posts(), told.watchers()), (scene().posts(), scene().watchers()))
        for name, row, delay in POSTS:
            self.assertEqual(told.rooms_of(name), row)
            self.assertEqual([told.where(name, beat) for beat in range(-9, 9)],
                             [scene().where(name, beat) for beat in range(-9, 9)])

    def test_told_lists_changed(self):
        told = scene()
        asked = (told.posts, told.watchers, lambda: told.lit(1), lambda: told.steps("hall", 0), told.house().rooms)
        for ask in asked:
            first = ask()
            kept = list(first)
            ask().append("other")
            self.assertEqual(ask(), kept)
            ask().clear()
            self.assertEqual(ask(), kept)
            self.assertEqual(first, kept)
            self.assertIsNot(ask(), first)
        self.assertEqual(told, scene())
        self.assertEqual([told.lit(beat) for beat in range(-20, 20)], [scene().lit(beat) for beat in range(-20, 20)])

    def test_told_lit_of_an_empty_scene(self):
        empty = Scene(villa())
        empty.lit(0).append("hall")
        empty.posts().append("south")
        self.assertEqual((empty.lit(0), empty.lit(1), empty.posts()), ([], [], []))
        self.assertTrue(empty.is_dark("hall", 0))


class Equal(Comparing):
    def test_same(self):
        self.check(scene(), scene(), True)
        self.check(Scene(House()), Scene(House()), True)
        told = scene()
        self.check(told, told, True)

    def test_doors_turned_about_and_sights_in_another_order(self):
        other = House(list(ROOMS), [(b, a) for a, b in DOORS[::-1]], SIGHTS[::-1] + SIGHTS)
        self.check(scene(), scene(house=other), True)

    def test_another_house(self):
        for house in (House(ROOMS + ("loft",), DOORS, SIGHTS), House(ROOMS[::-1], DOORS, SIGHTS),
                      House(ROOMS, DOORS + (("hall", "den"),), SIGHTS), House(ROOMS, DOORS, SIGHTS[:1]),
                      House(ROOMS, DOORS, SIGHTS + (("den", "hall"),)), House(ROOMS, DOORS, (("den", "attic"),))):
            self.check(scene(), scene(house=house), False)

    def test_another_change(self):
        self.check(scene(), scene(meet=False), False)
        self.check(scene(), scene(relief=3), False)
        self.check(scene(), scene(relief=0), False)

    def test_changes_count_as_given_where_they_change_nothing(self):
        for posts, watchers in (((), ()), ((), WATCHERS), (POSTS[:1], WATCHERS[:1])):
            first = scene(posts=posts, watchers=watchers, meet=False, relief=0)
            self.check(first, scene(posts=posts, watchers=watchers, meet=True, relief=0), False)
            self.check(first, scene(posts=posts, watchers=watchers, meet=False, relief=1), False)

    def test_another_order(self):
        self.check(scene(), scene(posts=POSTS[::-1]), False)
        self.check(scene(), scene(watchers=WATCHERS[::-1]), False)
        self.check(scene(), scene(watchers=WATCHERS[:2] + WATCHERS[:1:-1]), False)
        self.check(scene(posts=()), scene(posts=(), watchers=WATCHERS[::-1]), False)

    def test_another_reach_or_watcher(self):
        self.check(scene(), scene(watchers=WATCHERS[:3] + (("bo", 0),)), False)
        self.check(scene(), scene(watchers=WATCHERS[:3] + (("max", 1),)), False)
        self.check(scene(), scene(watchers=WATCHERS[:3]), False)
        self.check(scene(), scene(watchers=WATCHERS + (("max", 0),)), False)

    def test_another_post_delay_or_round(self):
        self.check(scene(), scene(posts=POSTS[:2]), False)
        self.check(scene(), scene(posts=POSTS[:2] + (("old", *POSTS[2][1:]),)), False)
        self.check(scene(), scene(posts=(("south", ROUND, 2),) + POSTS[1:]), False)
        self.check(scene(), scene(posts=(("south", ROUND[::-1], 3),) + POSTS[1:]), False)
        self.check(scene(), scene(posts=POSTS[:1] + (("east", ("den", "den"), 0),) + POSTS[2:]), False)

    def test_alike_at_all_beats_but_given_otherwise(self):
        # The same post a place further with a beat more of delay is at each beat in the same room.
        first = scene(posts=(("south", ("hall", "stair"), 0),))
        second = scene(posts=(("south", ("stair", "hall"), 1),))
        self.assertEqual([first.where("south", beat) for beat in range(4)],
                         [second.where("south", beat) for beat in range(4)])
        self.check(first, second, False)

    def test_beside_other_things(self):
        for told in (scene(), Scene(House())):
            for thing in (None, 0, 3, "", repr(told), [], (), {}, True, False, object(), told.house(), [told],
                          told.posts(), (told.house(), told.posts(), told.watchers(), True, 2)):
                self.check(told, thing, False)


if __name__ == "__main__":
    unittest.main()
