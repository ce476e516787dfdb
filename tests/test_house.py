"""Houses: what they tell."""

import itertools
import unittest

from darkthread.errors import NoRoom
from darkthread.house import MOST_ROOMS, House
from tests.comparing import Comparing

EIGHT = ("hall", "stair", "attic", "cellar", "yard", "a", "zz", "kitchen")
STRANGERS = ("shed", "", "Hall", "hal", "halls", "hall ")


def villa():
    """A house whose rooms do not go by the alphabet."""
    return House(("stair", "hall", "attic", "den"),
                 (("attic", "stair"), ("hall", "stair"), ("den", "attic")),
                 (("den", "hall"), ("stair", "den"), ("stair", "hall"), ("hall", "stair")))


def all_houses_of(rooms):
    """Every house with these rooms, with its sets of doors and sights."""
    unlike = list(itertools.permutations(rooms, 2))
    lots = [lot for many in range(len(unlike) + 1) for lot in itertools.combinations(unlike, many)]
    for doors in lots:
        for sights in lots:
            yield House(rooms, doors, sights), {frozenset(door) for door in doors}, set(sights)


class Told(unittest.TestCase):
    def test_most_rooms(self):
        self.assertEqual(MOST_ROOMS, 8)
        self.assertIs(type(MOST_ROOMS), int)

    def test_rooms_in_their_order(self):
        self.assertEqual(villa().rooms(), ["stair", "hall", "attic", "den"])
        for rooms in itertools.permutations(("a", "b", "c")):
            self.assertEqual(House(rooms).rooms(), list(rooms))

    def test_doors_by_the_order_of_the_rooms(self):
        self.assertEqual(villa().doors(), [("stair", "hall"), ("stair", "attic"), ("attic", "den")])

    def test_sights_by_the_order_of_the_rooms(self):
        self.assertEqual(villa().sights(),
                         [("stair", "hall"), ("stair", "den"), ("hall", "stair"), ("den", "hall")])

    def test_order_is_not_the_alphabet(self):
        house = House(("c", "b", "a"), (("a", "b"), ("b", "c"), ("a", "c")), (("a", "b"), ("a", "c"), ("c", "a")))
        self.assertEqual(house.doors(), [("c", "b"), ("c", "a"), ("b", "a")])
        self.assertEqual(house.sights(), [("c", "a"), ("a", "c"), ("a", "b")])
        self.assertEqual(house.near("b"), ["c", "a"])
        self.assertEqual(house.sees("a"), ["c", "b"])

    def test_doors_either_way_about_and_twice(self):
        for doors in ((("a", "b"),), (("b", "a"),), (("a", "b"), ("b", "a")), (("b", "a"), ("a", "b")),
                      (("a", "b"), ("a", "b")), (("b", "a"), ("b", "a"), ("b", "a"))):
            house = House(("a", "b"), doors)
            with self.subTest(doors=doors):
                self.assertEqual(house.doors(), [("a", "b")])
                self.assertEqual((house.near("a"), house.near("b")), (["b"], ["a"]))
                self.assertEqual(repr(house), "House(2 rooms, 1 doors, 0 sights)")
                self.assertEqual(str(house), "room a\nroom b\ndoor a b")

    def test_sights_twice_and_both_ways(self):
        for sights, told in (((("b", "a"), ("b", "a")), [("b", "a")]),
                             ((("a", "b"), ("a", "b"), ("a", "b")), [("a", "b")]),
                             ((("b", "a"), ("a", "b"), ("b", "a")), [("a", "b"), ("b", "a")])):
            house = House(("a", "b"), (), sights)
            with self.subTest(sights=sights):
                self.assertEqual(house.sights(), told)
                self.assertEqual(house.doors(), [])
                self.assertEqual(repr(house), f"House(2 rooms, 0 doors, {len(told)} sights)")

    def test_no_rooms(self):
        for house in (House(), House([]), House((), [], ()), House(rooms=[], doors=[], sights=[])):
            self.assertEqual((house.rooms(), house.doors(), house.sights()), ([], [], []))
            self.assertEqual(len(house), 0)
            self.assertFalse(house)
            self.assertEqual(str(house), "")
            self.assertEqual(repr(house), "House(0 rooms, 0 doors, 0 sights)")
            self.assertFalse(house.has_room("hall"))

    def test_eight_rooms_with_every_door_and_sight(self):
        doors = list(itertools.combinations(EIGHT, 2))
        sights = list(itertools.permutations(EIGHT, 2))
        house = House(EIGHT, list(reversed(doors)), list(reversed(sights)))
        self.assertEqual(house.rooms(), list(EIGHT))
        self.assertEqual(house.doors(), doors)
        self.assertEqual(house.sights(), sights)
        self.assertEqual(len(house), 8)
        self.assertEqual(repr(house), "House(8 rooms, 28 doors, 56 sights)")
        for room in EIGHT:
            others = [other for other in EIGHT if other != room]
            self.assertEqual(house.near(room), others)
            self.assertEqual(house.sees(room), others)

    def test_len_and_truth(self):
        for many in range(9):
            house = House(EIGHT[:many])
            self.assertEqual(len(house), many)
            self.assertIs(bool(house), many > 0)

    def test_str(self):
        self.assertEqual(str(villa()), "room stair\nroom hall\nroom attic\nroom den\n"
                                       "door stair hall\ndoor stair attic\ndoor attic den\n"
                                       "sight stair hall\nsight stair den\nsight hall stair\nsight den hall")
        self.assertEqual(str(House(("hall",))), "room hall")
        self.assertEqual(str(House(("b", "a"), (), (("a", "b"),))), "room b\nroom a\nsight a b")

    def test_repr(self):
        self.assertEqual(repr(villa()), "House(4 rooms, 3 doors, 4 sights)")
        self.assertEqual(repr(House(("a", "b", "c"), (("a", "b"), ("b", "c")), (("a", "c"),))),
                         "House(3 rooms, 2 doors, 1 sights)")
        self.assertEqual(repr(House(("a",))), "House(1 rooms, 0 doors, 0 sights)")

    def test_by_place_and_by_name(self):
        rooms, doors, sights = ("b", "a"), (("a", "b"),), (("a", "b"),)
        self.assertEqual(House(sights=sights, doors=doors, rooms=rooms), House(rooms, doors, sights))
        self.assertEqual(House(rooms, sights=sights).sights(), [("a", "b")])
        self.assertEqual(House(rooms, sights=sights).doors(), [])

    def test_kinds_of_values(self):
        house = villa()
        for told in (house.rooms(), house.doors(), house.sights(), house.near("hall"), house.sees("hall")):
            self.assertIs(type(told), list)
        for pair in house.doors() + house.sights():
            self.assertIs(type(pair), tuple)
        self.assertIs(type(str(house)), str)


class Copies(unittest.TestCase):
    def test_handed_in_stays_as_it_was(self):
        rooms, doors, sights = ["b", "a"], [("a", "b"), ("a", "b")], [("b", "a"), ("b", "a")]
        House(rooms, doors, sights)
        self.assertEqual((rooms, doors, sights), (["b", "a"], [("a", "b"), ("a", "b")], [("b", "a"), ("b", "a")]))

    def test_lists_changed_afterwards(self):
        rooms, doors, sights = ["b", "a"], [("a", "b")], [("a", "b")]
        house = House(rooms, doors, sights)
        rooms.append("c")
        rooms[0] = "d"
        doors.clear()
        sights.append(("b", "a"))
        self.assertEqual(house, House(("b", "a"), (("a", "b"),), (("a", "b"),)))
        self.assertEqual((house.rooms(), house.doors(), house.sights()), (["b", "a"], [("b", "a")], [("a", "b")]))
        self.assertTrue(house.has_room("b"))
        self.assertFalse(house.has_room("c"))

    def test_lists_and_tuples_are_alike(self):
        rooms, doors, sights = ("b", "a"), (("a", "b"),), (("a", "b"),)
        self.assertEqual(House(list(rooms), list(doors), list(sights)), House(rooms, doors, sights))

    def test_told_lists_changed(self):
        house = villa()
        asked = (house.rooms, house.doors, house.sights, lambda: house.near("stair"), lambda: house.sees("stair"))
        for ask in asked:
            first = ask()
            kept = list(first)
            ask().clear()
            self.assertEqual(ask(), kept)
            ask().append("other")
            self.assertEqual(ask(), kept)
            self.assertEqual(first, kept)
            self.assertIsNot(ask(), first)
        self.assertEqual(house, villa())
        self.assertEqual(str(house), str(villa()))

    def test_told_lists_of_a_room_alone(self):
        house = House(("a", "b"))
        house.near("a").append("b")
        house.sees("a").append("b")
        self.assertEqual((house.near("a"), house.sees("a")), ([], []))
        self.assertEqual((house.near("b"), house.sees("b")), ([], []))
        self.assertFalse(house.has_door("a", "b"))
        self.assertFalse(house.has_sight("a", "b"))

    def test_houses_do_not_share(self):
        first, second = House(("a", "b"), (("a", "b"),)), House(("a", "b"))
        first.rooms().append("c")
        self.assertEqual((first.doors(), second.doors()), ([("a", "b")], []))
        self.assertEqual(House().rooms(), [])


class Asked(unittest.TestCase):
    def check_pairs(self, house, rooms, doors, sights):
        for a, b in itertools.product(rooms, repeat=2):
            is_door = frozenset((a, b)) in doors and a != b
            self.assertIs(house.has_door(a, b), is_door)
            self.assertIs(house.has_sight(a, b), (a, b) in sights)
            self.assertIs(house.at_hand(a, b), is_door or a == b)

    def check_lists(self, house, rooms, doors, sights):
        for a in rooms:
            self.assertEqual(house.near(a), [b for b in rooms if frozenset((a, b)) in doors and a != b])
            self.assertEqual(house.sees(a), [b for b in rooms if (a, b) in sights])
        self.assertEqual(house.doors(), [pair for pair in itertools.combinations(rooms, 2) if frozenset(pair) in doors])
        self.assertEqual(house.sights(), [pair for pair in itertools.product(rooms, repeat=2) if pair in sights])

    def test_all_pairs_of_all_small_houses(self):
        for rooms in ((), ("a",), ("b", "a"), ("c", "a", "b")):
            for house, doors, sights in all_houses_of(rooms):
                self.check_pairs(house, rooms, doors, sights)
                self.check_lists(house, rooms, doors, sights)

    def test_all_pairs_of_a_greater_house(self):
        doors = (("yard", "hall"), ("a", "zz"), ("stair", "hall"), ("attic", "stair"), ("kitchen", "hall"))
        sights = (("zz", "a"), ("hall", "yard"), ("yard", "attic"), ("kitchen", "hall"), ("hall", "kitchen"))
        house = House(EIGHT, doors, sights)
        self.check_pairs(house, EIGHT, {frozenset(door) for door in doors}, set(sights))
        self.check_lists(house, EIGHT, {frozenset(door) for door in doors}, set(sights))

    def test_has_room(self):
        house = House(EIGHT)
        for room in EIGHT:
            self.assertIs(house.has_room(room), True)
        for room in STRANGERS:
            self.assertIs(house.has_room(room), False)
            self.assertIs(House().has_room(room), False)

    def check_stranger(self, name, ask, *rooms):
        with self.subTest(rooms=rooms), self.assertRaises(NoRoom) as caught:
            ask(*rooms)
        self.assertIs(type(caught.exception), NoRoom)
        self.assertEqual(caught.exception.name, name)

    def test_stranger_alone(self):
        for house in (villa(), House()):
            for room in STRANGERS:
                self.check_stranger(room, house.near, room)
                self.check_stranger(room, house.sees, room)

    def test_stranger_in_a_pair(self):
        house = villa()
        for ask in (house.has_door, house.has_sight, house.at_hand):
            for room in STRANGERS:
                self.check_stranger(room, ask, room, "hall")
                self.check_stranger(room, ask, "hall", room)
                self.check_stranger(room, ask, room, room)
                self.check_stranger(room, ask, room, "barn")
                self.check_stranger("barn", ask, "barn", room)

    def test_asking_changes_nothing(self):
        house = villa()
        for ask in (house.has_door, house.has_sight, house.at_hand):
            with self.assertRaises(NoRoom):
                ask("hall", "shed")
        self.assertEqual(house, villa())
        self.assertEqual(house.rooms(), villa().rooms())


class Equal(Comparing):
    def test_same(self):
        self.check(villa(), villa(), True)
        self.check(House(), House(), True)
        house = villa()
        self.check(house, house, True)

    def test_doors_turned_about_and_twice(self):
        first = House(("a", "b", "c"), (("a", "b"), ("c", "b")))
        self.check(first, House(("a", "b", "c"), (("b", "c"), ("b", "a"))), True)
        self.check(first, House(("a", "b", "c"), (("b", "a"), ("a", "b"), ("c", "b"), ("c", "b"))), True)

    def test_sights_in_another_order_and_twice(self):
        first = House(("a", "b", "c"), (), (("a", "b"), ("c", "b")))
        self.check(first, House(("a", "b", "c"), (), (("c", "b"), ("a", "b"), ("c", "b"))), True)
        self.check(first, House(("a", "b", "c"), (), (("b", "a"), ("c", "b"))), False)

    def test_rooms_in_another_order(self):
        self.check(House(("a", "b")), House(("b", "a")), False)
        self.check(House(("a", "b"), (("a", "b"),)), House(("b", "a"), (("a", "b"),)), False)
        self.check(House(("a", "b"), (), (("a", "b"),)), House(("b", "a"), (), (("a", "b"),)), False)

    def test_a_room_more(self):
        self.check(House(("a", "b")), House(("a", "b", "c")), False)
        self.check(House(("a", "b")), House(("c", "a", "b")), False)
        self.check(House(), House(("a",)), False)

    def test_another_room(self):
        self.check(House(("a", "b")), House(("a", "c")), False)

    def test_a_door_more_or_another(self):
        rooms = ("a", "b", "c")
        self.check(House(rooms, (("a", "b"),)), House(rooms), False)
        self.check(House(rooms, (("a", "b"),)), House(rooms, (("a", "b"), ("b", "c"))), False)
        self.check(House(rooms, (("a", "b"),)), House(rooms, (("a", "c"),)), False)

    def test_a_sight_more_or_another(self):
        rooms = ("a", "b", "c")
        self.check(House(rooms, (), (("a", "b"),)), House(rooms), False)
        self.check(House(rooms, (), (("a", "b"),)), House(rooms, (), (("a", "b"), ("b", "a"))), False)
        self.check(House(rooms, (), (("a", "b"),)), House(rooms, (), (("a", "c"),)), False)

    def test_a_door_is_no_sight(self):
        self.check(House(("a", "b"), (("a", "b"),)), House(("a", "b"), (), (("a", "b"), ("b", "a"))), False)

    def test_all_small_houses(self):
        found = [(house, (doors, sights)) for house, doors, sights in all_houses_of(("b", "a"))]
        for (house, parts), (other, other_parts) in itertools.product(found, repeat=2):
            self.assertIs(house == other, parts == other_parts)
            self.assertIs(house != other, parts != other_parts)

    def test_beside_other_things(self):
        for house in (villa(), House()):
            for thing in (None, 0, 4, "", str(house), repr(house), [], house.rooms(), (), {}, True, False, object(),
                          (house.rooms(), house.doors(), house.sights()), [house]):
                self.check(house, thing, False)


if __name__ == "__main__":
    unittest.main()
