"""Wheels: least common multiples, and the numbers that have two rests at once."""

import itertools
import math
import unittest

from darkthread.rounds import met, wheel_of

GREAT = (10 ** 9 + 7, 10 ** 9 + 9, 2 ** 61 - 1, 6 ** 20, 10 ** 12, 2 * 3 * 5 * 7 * 11 * 13 * 17 * 19 * 23 * 29,
         9876543210, 1234567890, 10 ** 30 + 57, 1)


class WheelOf(unittest.TestCase):
    def check(self, sizes, wheel):
        for row in (tuple(sizes), list(sizes)):
            with self.subTest(row=row):
                self.assertEqual(wheel_of(row), wheel)
                self.assertIs(type(wheel_of(row)), int)
        self.assertEqual(row, list(sizes))

    def test_none(self):
        self.check((), 1)

    def test_one(self):
        for size in tuple(range(1, 50)) + GREAT:
            self.check((size,), size)

    def test_small_pairs_by_going_through(self):
        for one, other in itertools.product(range(1, 25), repeat=2):
            least = next(n for n in range(1, one * other + 1) if n % one == 0 and n % other == 0)
            self.check((one, other), least)

    def test_several(self):
        self.check((4, 6), 12)
        self.check((6, 4, 6), 12)
        self.check((2, 3, 5), 30)
        self.check((1, 1, 1), 1)
        self.check((4, 6, 10, 15), 60)
        for many in range(3, 6):
            for sizes in itertools.product(range(1, 7), repeat=many):
                self.assertEqual(wheel_of(sizes), math.lcm(*sizes))

    def test_in_every_order(self):
        for sizes in itertools.permutations((4, 6, 9, 10)):
            self.check(sizes, 180)

    def test_great_numbers(self):
        for sizes in itertools.product(GREAT, repeat=2):
            self.check(sizes, math.lcm(*sizes))
        self.check(GREAT, math.lcm(*GREAT))
        self.check((10 ** 9 + 7, 10 ** 9 + 9), (10 ** 9 + 7) * (10 ** 9 + 9))
        self.check((10 ** 12, 10 ** 12), 10 ** 12)


class Met(unittest.TestCase):
    def test_by_hand(self):
        self.assertEqual(met((0, 1), (0, 1)), (0, 1))
        self.assertEqual(met((1, 2), (2, 3)), (5, 6))
        self.assertEqual(met((1, 4), (3, 6)), (9, 12))
        self.assertEqual(met((0, 4), (2, 6)), (8, 12))
        self.assertEqual(met((3, 4), (1, 2)), (3, 4))
        self.assertEqual(met((0, 1), (5, 7)), (5, 7))
        self.assertIsNone(met((0, 4), (1, 6)))
        self.assertIsNone(met((0, 2), (1, 2)))

    def test_all_small_pairs_by_going_through(self):
        for size, other_size in itertools.product(range(1, 17), repeat=2):
            wheel = math.lcm(size, other_size)
            found = {(n % size, n % other_size): (n, wheel) for n in range(wheel)}
            for rests in itertools.product(range(size), range(other_size)):
                with self.subTest(rests=rests, sizes=(size, other_size)):
                    self.assertEqual(met((rests[0], size), (rests[1], other_size)), found.get(rests))

    def test_kinds_of_values(self):
        told = met((1, 2), (2, 3))
        self.assertIs(type(told), tuple)
        self.assertEqual([type(number) for number in told], [int, int])

    def test_either_way_about(self):
        for size, other_size in itertools.product(range(1, 9), repeat=2):
            for rests in itertools.product(range(size), range(other_size)):
                one, other = (rests[0], size), (rests[1], other_size)
                self.assertEqual(met(one, other), met(other, one))

    def test_great_numbers(self):
        for size, other_size in itertools.product(GREAT, repeat=2):
            wheel = math.lcm(size, other_size)
            for number in (0, 1, wheel - 1, wheel // 2, wheel * 7 // 11, wheel * 13 // 17 + 1):
                number %= wheel
                with self.subTest(number=number, sizes=(size, other_size)):
                    self.assertEqual(met((number % size, size), (number % other_size, other_size)), (number, wheel))

    def test_great_numbers_that_never_meet(self):
        self.assertIsNone(met((0, 10 ** 12), (1, 10 ** 12)))
        self.assertIsNone(met((10 ** 12 - 1, 10 ** 12), (0, 10 ** 11)))
        self.assertIsNone(met((3, 6 ** 20), (5, 9876543210)))
        self.assertEqual(met((10 ** 12 - 1, 10 ** 12), (10 ** 11 - 1, 10 ** 11)), (10 ** 12 - 1, 10 ** 12))

    def test_several_in_a_row(self):
        rests = [(2, 3), (3, 5), (2, 7), (11, 13), (999999999, 10 ** 9 + 7)]
        told = (0, 1)
        for pair in rests:
            told = met(told, pair)
        rest, wheel = told
        self.assertEqual(wheel, math.prod(size for each, size in rests))
        self.assertEqual([(rest % size, size) for each, size in rests], rests)
        self.assertTrue(0 <= rest < wheel)


if __name__ == "__main__":
    unittest.main()
