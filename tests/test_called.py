"""All functions and classes called by place and by name, with their defaults left out and handed in."""

import inspect
import unittest

from darkthread import askings, bars, errors, house, linger, lines, meets, pages, rounds, scene, seen, several, ways
from darkthread.book import Book
from darkthread.desk import Desk
from tests.plainbook import book_of, shape_of

HOUSE = house.House(("hall", "stair", "attic"), (("hall", "stair"), ("stair", "attic")), (("hall", "attic"),))
POSTS = (("north", ("hall", "stair"), 1), ("south", ("stair",), 0))
WATCHERS = (("zoe", 1), ("abe", 0), ("kim", 1))
SCENE = scene.Scene(HOUSE, POSTS, WATCHERS, meet=True, relief=2)
DEEDS = (("room", "hall"), ("watcher", "zoe", 0), ("watch", "w", ("lit", 0)), ("post", "p", ("hall",), 0))
BOOK = book_of(DEEDS)

# Each with all its arguments, in their order.
CALLS = (
    (house.is_name, "hall"), (house.House, HOUSE.rooms(), HOUSE.doors(), HOUSE.sights()), (HOUSE.has_room, "hall"),
    (HOUSE.near, "stair"), (HOUSE.sees, "hall"), (HOUSE.has_door, "hall", "stair"), (HOUSE.has_sight, "hall", "attic"),
    (HOUSE.at_hand, "hall", "hall"), (rounds.need_round, HOUSE, ("hall", "stair")), (rounds.place, ("a", "b", "c"), 4, 2),
    (rounds.turned, ("a", "b", "c")), (rounds.wheel_of, (4, 6)), (rounds.met, (1, 4), (3, 6)),
    (scene.Scene, HOUSE, POSTS, WATCHERS, True, 2), (SCENE.rooms_of, "north"), (SCENE.delay_of, "north"),
    (SCENE.where, "north", 3), (SCENE.who, "north", 3), (SCENE.post_of, "kim", 3), (SCENE.reach_of, "zoe"),
    (SCENE.lit, 3), (SCENE.is_dark, "attic", 3), (SCENE.barred, "hall", "stair", 3), (SCENE.steps, "attic", 3),
    (meets.posts_meet, SCENE, "north", "south"), (meets.watchers_meet, SCENE, "zoe", "abe"),
    (ways.way, SCENE, ["attic"], ["hall"], 3), (ways.is_walk, SCENE, 3, ["attic"]),
    (ways.is_way, SCENE, ["attic"], ["hall"], 3, ["attic"]), (ways.is_closed, SCENE, ["stair"], ["hall"], [], 3),
    (linger.linger, SCENE, "attic", 3), (linger.is_ever, SCENE, "attic", 3, (), ("attic",)),
    (linger.is_most, SCENE, "attic", 3, ("attic",), []), (bars.fewest, HOUSE, POSTS, (1, 0), ["attic"], ["hall"]),
    (bars.is_bar, HOUSE, POSTS, (1, 0), ["attic"], ["hall"], ("north",), []),
    (bars.least_delays, HOUSE, POSTS, (1, 0), ["attic"], ["hall"]), (several.together, SCENE, [("attic", "hall")], 3),
    (several.is_together, SCENE, [("attic", "attic")], 3, [("attic",)]), (seen.fits, HOUSE, 2, [(3, "hall", True)]),
    (seen.can_be, HOUSE, 2, [(3, "hall", True)], 0), (seen.read_round, HOUSE, 2, [(3, "hall", True)]),
    (seen.is_misfit, HOUSE, 1, [(3, "hall", True)], []), (askings.need_asking, ("wheel",)),
    (askings.answer, SCENE, ("lit", 3)), (askings.asking_text, ("lit", 3)), (askings.read_asking, "lit 3"),
    (askings.shown, ("hall", "stair")), (lines.deed_text, DEEDS[3]), (lines.deed_of, "post p hall 0"), (pages.page, BOOK),
    (pages.read_page, str(BOOK)), (BOOK.ask, ("lit", 0)), (BOOK.seen_by, "w"))

# Each of these changes its book, so each is called on one of its own.
CHANGES = (("do", ("room", "den")), ("all_of", [("room", "den"), ("room", "loft")]), ("post", "q", ["hall", "hall"], 1),
           ("watcher", "abe", 1), ("rule", True, 3))


def called_by_place(ask, things):
    """Called by place, but for what stands behind a star."""
    parameters = list(inspect.signature(ask).parameters.values())
    placed = [thing for thing, part in zip(things, parameters) if part.kind != part.KEYWORD_ONLY]
    named = {part.name: thing for thing, part in zip(things, parameters) if part.kind == part.KEYWORD_ONLY}
    return ask(*placed, **named)


def called_by_name(ask, things):
    """Called by name, the last argument first."""
    names = list(inspect.signature(ask).parameters)
    return ask(**dict(reversed(list(zip(names, things)))))


class Called(unittest.TestCase):
    def test_by_place_and_by_name(self):
        for ask, *things in CALLS:
            with self.subTest(ask=ask):
                self.assertEqual(len(things), len(inspect.signature(ask).parameters))
                self.assertEqual(called_by_name(ask, things), called_by_place(ask, things))

    def test_what_changes_a_book(self):
        for name, *things in CHANGES:
            one, other = book_of(DEEDS), book_of(DEEDS)
            self.assertIsNone(called_by_place(getattr(one, name), things))
            self.assertIsNone(called_by_name(getattr(other, name), things))
            self.assertEqual(shape_of(one), shape_of(other))
            self.assertGreater(len(one), len(DEEDS))

    def test_what_stands_behind_a_star_is_handed_in_by_name(self):
        for ask, things in ((rounds.place, (("a", "b"), 3, 1)), (scene.Scene, (HOUSE, POSTS, WATCHERS, True)),
                            (ways.way, (SCENE, ["attic"], ["hall"], 3)), (Book().post, ("p", ["hall"], 0)),
                            (ways.is_closed, (SCENE, ["attic"], ["hall"], [], 3)), (Book().watcher, ("zoe", 0)),
                            (Book().rule, (True,))):
            with self.assertRaises(TypeError):
                ask(*things)

    def test_defaults_left_out_and_handed_in(self):
        self.assertEqual(house.House(), house.House((), (), ()))
        self.assertEqual(house.House(("hall",)), house.House(("hall",), doors=(), sights=()))
        self.assertEqual(rounds.place(("a", "b"), 3), rounds.place(("a", "b"), 3, delay=0))
        self.assertEqual(scene.Scene(HOUSE), scene.Scene(HOUSE, (), (), meet=False, relief=scene.NEVER))
        self.assertEqual(scene.Scene(HOUSE, POSTS, WATCHERS), scene.Scene(HOUSE, POSTS, WATCHERS, relief=0, meet=False))
        self.assertEqual(ways.way(SCENE, ["attic"], ["hall"]), ways.way(SCENE, ["attic"], ["hall"], begin=None))
        self.assertEqual(ways.is_closed(SCENE, [], [], []), ways.is_closed(SCENE, [], [], [], begin=None))
        self.assertEqual(Desk().book(), Desk(None).book())

    def test_defaults_of_a_book(self):
        one, other = book_of(DEEDS), book_of(DEEDS)
        one.post("q", ("hall",))
        other.post("q", ("hall",), delay=0)
        one.watcher("abe")
        other.watcher("abe", reach=0)
        one.rule()
        other.rule(meet=False, relief=scene.NEVER)
        self.assertEqual(shape_of(one), shape_of(other))
        self.assertEqual(one.deeds()[4:], [("post", "q", ("hall",), 0), ("watcher", "abe", 0), ("rule", False, 0)])

    def test_refusals_made_by_place_and_by_name(self):
        for word, field in (("BadName", "name"), ("Taken", "name"), ("Leans", "name"), ("BadNumber", "asked"),
                            ("NotAWalk", "at"), ("Broken", "at"), ("TooGreat", "many"), ("BadText", "row"),
                            ("NoRoom", "name"), ("NoPost", "name"), ("NoWatcher", "name"), ("NoWatch", "name")):
            kind = getattr(errors, word)
            self.assertEqual([getattr(made, field) for made in (kind(7), kind(**{field: 7}))], [7, 7])

    def test_a_desk(self):
        for desk in (Desk(BOOK), Desk(book=BOOK)):
            self.assertIs(desk.book(), BOOK)
            self.assertEqual([desk.say("ask lit 0"), desk.say(line="ask lit 0")], ["hall", "hall"])


if __name__ == "__main__":
    unittest.main()
