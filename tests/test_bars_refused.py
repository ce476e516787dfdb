"""What bars, refused: as a scene refuses, then starts and goals, then too many rows."""

import unittest

from darkthread.bars import fewest, is_bar, least_delays
from darkthread.errors import BadName, BadNumber, BadRound, Full, NoPost, NoRoom, NotAWalk, Taken, TooGreat
from darkthread.house import House
from tests.refusing import STRANGERS, Refusing

HOUSE = House(("hall", "stair", "attic"), (("hall", "stair"), ("stair", "attic")), (("hall", "attic"),))
GOOD = ("north", ("hall", "stair"), 1)
NUMBERS = (2, -1, 3, 10 ** 9, -(10 ** 9), 10 ** 30)


def many_posts(many):
    return [(name, ("hall",) * 6, 0) for name in "abcdefgh"[:many]]


class Refused(Refusing):
    def check(self, kind, value, posts, reaches, starts=("hall",), goals=("attic",)):
        """The refusal of each of the three, by tuples and by lists; the last two with names of no post, too."""
        for row in (tuple, list):
            handed = HOUSE, row(posts), row(reaches), row(starts), row(goals)
            self.check_refused(kind, value, fewest, *handed)
            self.check_refused(kind, value, least_delays, *handed)
            for names, ways in (((), []), (("north",), []), (("nobody", "nobody"), [(10 ** 10, ())])):
                self.check_refused(kind, value, is_bar, *handed, names, ways)

    def test_more_than_five_posts(self):
        for many in (6, 7, 8):
            self.check(Full, None, many_posts(many), (0,) * many)
            self.check(Full, None, [("Bad", (), 9)] * many, (5,) * many, ("shed",), ("barn",))
        fewest(HOUSE, many_posts(5), (1,) * 5, ["hall"], ["attic"])
        is_bar(HOUSE, many_posts(5), (1,) * 5, ["hall"], ["attic"], ("a",), [])

    def test_names(self):
        for name in ("", "North", "north2", "a b", "ninthpost", "\u00e4"):
            self.check(BadName, name, [(name, ("hall",), 0)], (0,))
            self.check(BadName, name, [GOOD, (name, ("shed",), 7)], (7, 0), ("shed",))
        self.check(Taken, "north", [GOOD, GOOD], (0, 1))
        self.check(Taken, "north", [GOOD, ("north", (), 9)], (3, 3), ("shed",))

    def test_rounds_that_are_none(self):
        self.check(BadRound, None, [("old", (), 0)], (0,))
        self.check(BadRound, None, [GOOD, ("old", ("hall",) * 7, 9)], (0, 9))
        self.check(NoRoom, "shed", [("old", ("hall", "shed", "barn"), 0)], (0,))
        self.check(NotAWalk, 0, [("old", ("hall", "attic"), 0)], (0,))
        self.check(NotAWalk, 2, [GOOD, ("old", ("hall", "stair", "attic"), 9)], (9, 9), ("shed",))

    def test_delays_that_are_none(self):
        for delay in NUMBERS:
            self.check(BadNumber, delay, [("old", ("hall", "stair"), delay)], (0,))
            self.check(BadNumber, delay, [GOOD, ("old", ("hall", "stair"), delay), ("Bad", (), 0)], (7, 7, 7),
                       ("shed",))

    def test_reaches_that_are_none(self):
        for reach in NUMBERS:
            self.check(BadNumber, reach, [GOOD], (reach,))
            self.check(BadNumber, reach, [GOOD, ("old", ("hall",), 0)], (1, reach))
            self.check(BadNumber, reach, [GOOD, ("old", ("hall",), 0)], (reach, 77), ("shed",), ("barn",))
            self.check(BadNumber, 9, [GOOD, ("old", ("hall",), 9)], (reach, 0))

    def test_starts_and_goals(self):
        for name in STRANGERS + ("north",):
            self.check(NoRoom, name, [GOOD], (0,), (name,), ("attic",))
            self.check(NoRoom, name, [GOOD], (0,), ("hall", name, "barn"), ("barn",))
            self.check(NoRoom, name, [GOOD], (0,), ("hall",), ("attic", name, "barn"))
            self.check(NoRoom, name, [], (), (), (name,))
            self.check(NoRoom, "barn", [], (), ("barn",), (name,))

    def test_strangers_ahead_of_too_great(self):
        posts = [(name, ("hall",) * 6, 0) for name in "abcd"]
        self.check(NoRoom, "shed", posts, (0, 0, 0, 0), ("shed",), ())
        self.check(NoRoom, "shed", posts, (0, 0, 0, 0), (), ("hall", "shed"))
        self.check(BadNumber, 2, posts, (0, 0, 0, 2), (), ("hall", "shed"))
        self.check_refused(TooGreat, 1296, least_delays, HOUSE, posts, (0, 0, 0, 0), (), ())
        self.assertEqual(fewest(HOUSE, posts, (0, 0, 0, 0), (), ()), ("bars", (), []))

    def test_no_post_behind_all_else(self):
        posts = [GOOD]
        self.check_refused(NoRoom, "shed", is_bar, HOUSE, posts, (0,), ["shed"], [], ("nobody",), [])
        self.check_refused(NoRoom, "shed", is_bar, HOUSE, posts, (0,), [], ["shed"], ("nobody",), [])
        self.check_refused(NoPost, "nobody", is_bar, HOUSE, posts, (0,), [], [], ("north", "nobody", "other"), [])
        self.check_refused(NoPost, "nobody", is_bar, House(), (), (), [], [], ("nobody",), [(0, ())])


if __name__ == "__main__":
    unittest.main()
