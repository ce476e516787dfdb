"""Rounds that fit what was seen, held against going through all rounds."""

import itertools
import unittest

from darkthread.errors import BadNumber, NoRoom
from darkthread.house import House
from darkthread.seen import can_be, fits, is_misfit, read_round
from tests.plain import Chance, pairs, some_plains, some_round
from tests.refusing import BEYOND, FAR, STRANGERS, Refusing

LINE = House(tuple("abc"), pairs("ab bc"))
HOUSES = [LINE, House(("a",)), House(tuple("abcd"), pairs("ab bc cd da")), House(tuple("abc"))]
HOUSES += [plain.house for plain in some_plains(4, rooms=4, doors=50, posts=0, watchers=0)]


def rounds_of(house, size):
    """All rounds of a house."""
    return [row for row in itertools.product(house.rooms(), repeat=size)
            if all(house.at_hand(row[at - 1], row[at]) for at in range(size))]


def fitting(house, size, sightings):
    """All rounds that fit."""
    return [row for row in rounds_of(house, size)
            if all((row[beat % size] == room) == there for beat, room, there in sightings)]


def some_sightings(chance, house, size):
    """Rows of sightings: none, true ones of a round, and some that are false."""
    row = some_round(chance, house, size)
    beats = [chance.one_of((0, 1, 2, 3, 5, -1, -4, 7, FAR, -FAR)) for at in range(5)]
    true = [(beat, row[beat % size], True) for beat in beats]
    others = [(beat, chance.one_of(house.rooms())) for beat in beats]
    away = [(beat, room, row[beat % size] == room) for beat, room in others]
    wild = [(beat, room, chance.below(2) == 0) for beat, room in others]
    return [], true[:1], true, away[:2], away, true[:2] + away, wild[:1], wild[:2], wild, true + wild


def asked():
    for number, house in enumerate(HOUSES):
        for size in range(1, 7):
            if len(house) ** size <= 1024:
                chance = Chance(number * 10 + size)
                for turn in range(4):
                    for sightings in some_sightings(chance, house, size):
                        yield house, size, sightings


ASKED = list(asked())


def is_misfit_plainly(house, size, sightings, table):
    """Whether a table shows that none fits, along the document's words."""
    rooms = house.rooms()
    if len(table) != len(rooms) or any(len(rows) != size for rows in table):
        return False
    if any(room not in rooms for rows in table for row in rows for room in row):
        return False
    for first, rows in zip(rooms, table):
        spoken = [[room for room in rooms for beat, seen, there in sightings
                   if beat % size == at and (seen == room) != there] for at in range(size)]
        if list(rows[0]) != ([] if first in spoken[0] else [first]):
            return False
        for at in range(1, size):
            for room in rooms:
                led = any(house.at_hand(ahead, room) for ahead in rows[at - 1])
                if led and room not in spoken[at] and room not in rows[at]:
                    return False
        if any(house.at_hand(room, first) for room in rows[-1]):
            return False
    return True


class Seen(unittest.TestCase):
    def test_how_many_fit(self):
        found = []
        for house, size, sightings in ASKED:
            found.append(fits(house, size, sightings))
            self.assertEqual(found[-1], len(fitting(house, size, sightings)))
        self.assertGreater(found.count(0), 100)
        self.assertGreater(found.count(1), 50)
        self.assertGreater(max(found), 50)

    def test_by_hand(self):
        self.assertEqual([fits(LINE, size, ()) for size in range(1, 7)],
                         [len(rounds_of(LINE, size)) for size in range(1, 7)])
        self.assertEqual([fits(LINE, size, ()) for size in (1, 2)], [3, 7])
        self.assertEqual(fits(LINE, 2, [(0, "b", True)]), 3)
        self.assertEqual(fits(LINE, 2, [(0, "b", True), (3, "b", False)]), 2)
        self.assertEqual(fits(LINE, 2, [(0, "b", True), (-1, "a", True), (-1, "a", True)]), 1)
        self.assertEqual(fits(LINE, 2, [(0, "a", True), (1, "c", True)]), 0)
        self.assertEqual(fits(LINE, 2, [(0, "a", True), (4, "a", False)]), 0)
        self.assertEqual(fits(LINE, 4, [(0, "a", True), (2, "c", True)]), 1)
        self.assertEqual(fits(LINE, 1, [(FAR, "a", True), (-FAR, "a", True), (3, "b", False)]), 1)

    def test_many_rounds_of_the_greatest_house(self):
        names = tuple("abcdefgh")
        house = House(names, list(itertools.combinations(names, 2)))
        self.assertEqual(fits(house, 6, ()), 8 ** 6)
        self.assertEqual(fits(house, 6, [(0, "a", False)]), 7 * 8 ** 5)
        self.assertEqual(can_be(house, 6, [(2, "a", False)], -4), list("bcdefgh"))
        self.assertEqual(read_round(house, 6, ())[0], "many")
        ring = House(names, list(zip(names, names[1:] + names[:1])))
        self.assertEqual(fits(ring, 6, ()), len(rounds_of(ring, 6)))

    def test_where_it_can_be(self):
        unlike = 0
        for house, size, sightings in ASKED:
            rows = fitting(house, size, sightings)
            for beat in (0, 1, 3, -2, FAR, -FAR):
                rooms = [room for room in house.rooms() if any(row[beat % size] == room for row in rows)]
                told = can_be(house, size, sightings, beat)
                self.assertEqual((type(told), told), (list, rooms))
                unlike += 1 < len(rooms) < len(house)
        self.assertGreater(unlike, 50)

    def test_read_round(self):
        found = []
        for house, size, sightings in ASKED:
            rows = fitting(house, size, sightings)
            told = read_round(house, size, sightings)
            self.assertIs(type(told), tuple)
            found.append(told[0])
            if not rows:
                self.check_none(house, size, sightings, told)
            elif len(rows) == 1:
                self.assertEqual(told, ("one", rows[0]))
                self.assertIs(type(told[1]), tuple)
            else:
                self.check_many(rows, told)
        for word in ("none", "one", "many"):
            self.assertGreater(found.count(word), 50)

    def check_many(self, rows, told):
        word, row, other, at = told
        self.assertEqual((word, type(row), type(other), type(at)), ("many", tuple, tuple, int))
        self.assertIn(row, rows)
        self.assertIn(other, rows)
        self.assertIn(at, range(len(row)))
        self.assertNotEqual(row[at], other[at])

    def check_none(self, house, size, sightings, told):
        word, table = told
        self.assertEqual((word, type(table)), ("none", list))
        for lists in table:
            self.assertEqual((type(lists), {type(row) for row in lists}), (list, {list}))
        self.assertTrue(is_misfit_plainly(house, size, sightings, table))
        self.assertIs(is_misfit(house, size, sightings, table), True)

    def test_houses_without_rooms(self):
        for size in range(1, 7):
            self.assertEqual(fits(House(), size, ()), 0)
            self.assertEqual(can_be(House(), size, [], 3), [])
            self.assertEqual(read_round(House(), size, ()), ("none", []))
            self.assertIs(is_misfit(House(), size, (), []), True)
            self.assertIs(is_misfit(House(), size, (), [[]]), False)
            self.assertIs(is_misfit(House(), size, (), [[[]] * size]), False)

    def test_none_by_hand(self):
        self.assertEqual(read_round(LINE, 2, [(0, "a", True), (1, "c", True)]),
                         ("none", [[["a"], []], [[], []], [[], []]]))
        self.assertEqual(read_round(LINE, 1, [(0, "a", False), (1, "b", False), (2, "c", False)]),
                         ("none", [[[]], [[]], [[]]]))
        word, table = read_round(LINE, 3, [(1, "b", True), (2, "c", True), (0, "c", False), (3, "b", False)])
        self.assertEqual((word, table), ("none", [[["a"], ["b"], ["c"]], [[], [], []], [[], [], []]]))


def bent(house, table):
    """Tables that come from one by leaving out, putting in or doubling a room, a list or a row."""
    yield []
    yield table + [[[]] * len(table[0])]
    yield table[::-1]
    for at, rows in enumerate(table):
        yield table[:at] + table[at + 1:]
        yield table[:at] + [rows] + table[at:]
        for place, row in enumerate(rows):
            for changed in (rows[:place] + rows[place + 1:], rows[:place] + [row] + rows[place:],
                            rows[:place] + [[]] + rows[place + 1:], rows[:place] + [row + row] + rows[place + 1:],
                            *[rows[:place] + [row[:gone] + row[gone + 1:]] + rows[place + 1:]
                              for gone in range(len(row))],
                            *[rows[:place] + [row + [room]] + rows[place + 1:] for room in house.rooms() + ["shed"]]):
                yield table[:at] + [changed] + table[at + 1:]


class IsMisfit(unittest.TestCase):
    def test_told_and_bent(self):
        found = []
        for house, size, sightings in ASKED:
            told = read_round(house, size, sightings)
            if told[0] == "none":
                for table in bent(house, told[1]):
                    expected = is_misfit_plainly(house, size, sightings, table)
                    self.assertIs(is_misfit(house, size, sightings, table), expected, (size, sightings, table))
                    found.append(expected)
        self.assertGreater(found.count(True), 500)
        self.assertGreater(found.count(False), 500)

    def test_never_where_one_fits(self):
        for house, size, sightings in ASKED:
            if fits(house, size, sightings) > 0 and len(house) > 0:
                table = [[[room] for at in range(size)] for room in house.rooms()]
                self.assertIs(is_misfit(house, size, sightings, table), False)
                table = [[[]] * size for room in house.rooms()]
                self.assertIs(is_misfit(house, size, sightings, table), False)

    def test_by_hand(self):
        sightings = [(0, "a", True), (1, "c", True)]
        good = [[["a"], []], [[], []], [[], []]]
        self.assertIs(is_misfit(LINE, 2, sightings, good), True)
        # More than all that can be will do, but for the end: of it no door leads to the first room.
        self.assertIs(is_misfit(LINE, 2, sightings, [[["a"], ["c"]], [[], []], [[], ["a", "a"]]]), True)
        self.assertIs(is_misfit(LINE, 2, sightings, [[["a"], ["b"]], [[], []], [[], []]]), False)
        self.assertIs(is_misfit(LINE, 2, sightings, [[["a"], []], [[], ["a"]], [[], []]]), False)
        self.assertIs(is_misfit(LINE, 2, sightings, [[["a"], []], [[], []], [[], ["c"]]]), False)
        # The first list is the room alone, once, where no sighting speaks against it.
        for first in ([], ["a", "a"], ["b"], ["a", "b"], ["shed"]):
            self.assertIs(is_misfit(LINE, 2, sightings, [[first, []], [[], []], [[], []]]), False)
        self.assertIs(is_misfit(LINE, 2, sightings, [[["a"], []], [["b"], []], [[], []]]), False)

    def test_by_tuples_and_by_name(self):
        sightings = ((0, "a", True), (1, "c", True))
        table = ((("a",), ()), ((), ()), ((), ()))
        self.assertIs(is_misfit(table=table, sightings=sightings, size=2, house=LINE), True)


class Alike(unittest.TestCase):
    def test_the_same_asked_again(self):
        for house, size, sightings in ASKED[::3]:
            again = House(house.rooms(), house.doors())
            for ask in (fits, read_round):
                first = ask(house, size, sightings)
                for told in (ask(house, size, sightings), ask(house, size, tuple(sightings)),
                             ask(again, size, sightings), ask(sightings=sightings, size=size, house=house)):
                    self.assertEqual(told, first)
            first = can_be(house, size, sightings, 1)
            for told in (can_be(house, size, tuple(sightings), 1),
                         can_be(beat=1, sightings=sightings, size=size, house=house)):
                self.assertEqual(told, first)

    def test_told_lists_changed(self):
        first = can_be(LINE, 2, (), 0)
        first.clear()
        self.assertEqual(can_be(LINE, 2, (), 0), ["a", "b", "c"])
        sightings = [(0, "a", True), (1, "c", True)]
        table = read_round(LINE, 2, sightings)[1]
        table[0][0].clear()
        table[1].clear()
        table.pop()
        self.assertEqual(read_round(LINE, 2, sightings), ("none", [[["a"], []], [[], []], [[], []]]))
        # Of the told lists none is another one, so each can be changed by itself.
        table = read_round(LINE, 2, sightings)[1]
        table[1][0].append("b")
        self.assertEqual(table, [[["a"], []], [["b"], []], [[], []]])

    def test_rows_stay_as_they_were(self):
        sightings = [(0, "a", True), (1, "c", True)]
        table = [[["a"], []], [[], []], [[], []]]
        fits(LINE, 2, sightings)
        can_be(LINE, 2, sightings, 0)
        read_round(LINE, 2, sightings)
        is_misfit(LINE, 2, sightings, table)
        self.assertEqual(sightings, [(0, "a", True), (1, "c", True)])
        self.assertEqual(table, [[["a"], []], [[], []], [[], []]])


class Refused(Refusing):
    def check(self, kind, value, size, sightings, house=LINE):
        for row in (tuple, list):
            self.check_refused(kind, value, fits, house, size, row(sightings))
            self.check_refused(kind, value, read_round, house, size, row(sightings))
            for beat in (0, FAR + 1):
                self.check_refused(kind, value, can_be, house, size, row(sightings), beat)
            for table in ([], [[["shed"]]]):
                self.check_refused(kind, value, is_misfit, house, size, row(sightings), table)

    def test_sizes(self):
        for size in (0, 7, -1, 8, 12, 10 ** 9, -(10 ** 30)):
            self.check(BadNumber, size, size, [])
            self.check(BadNumber, size, size, [(FAR + 1, "shed", True)])
            self.check(BadNumber, size, size, [], House())

    def test_beats_of_sightings(self):
        for beat in BEYOND:
            self.check(BadNumber, beat, 2, [(beat, "a", True)])
            self.check(BadNumber, beat, 2, [(beat, "shed", True), (0, "barn", False)])
            self.check(BadNumber, beat, 2, [(0, "a", True), (FAR, "b", False), (beat, "c", False)])

    def test_rooms_of_sightings(self):
        for name in STRANGERS:
            self.check(NoRoom, name, 2, [(0, name, True)])
            self.check(NoRoom, name, 2, [(0, "a", True), (-FAR, name, False), (FAR + 1, "barn", True)])
            self.check(NoRoom, name, 6, [(0, name, True)], House())

    def test_the_beat_asked_for_last(self):
        for beat in BEYOND:
            self.check_refused(BadNumber, beat, can_be, LINE, 3, [(0, "a", True)], beat)
            self.check_refused(BadNumber, beat, can_be, House(), 3, [], beat)
            self.check_refused(NoRoom, "shed", can_be, LINE, 3, [(0, "shed", True)], beat)
        for beat in (FAR, -FAR):
            self.assertEqual(can_be(LINE, 1, [(beat, "a", True)], -beat), ["a"])


if __name__ == "__main__":
    unittest.main()
