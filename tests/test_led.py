"""Points 3 and 4: numbers led down, how many to a bound, the one of a spot, the least of so many steps."""

import math
import unittest

from plain import KINDS, MILLION, SHAPES, assert_refused, plain_led, plain_steps
from squareleads.errors import BadSpot
from squareleads.telling import how_many, led, least_long, number_by


def lead_in_the_test(kind, number):
    """Count the steps of a number however great."""
    steps = 0
    while number:
        if kind == 0:
            root = math.isqrt(number)
            number -= root * root
        else:
            root = (math.isqrt(8 * number + 1) - 1) // 2
            number -= root * (root + 1) // 2
        steps += 1
    return steps


class LedTests(unittest.TestCase):
    def check(self, kind, number):
        told = led(kind, number)
        self.assertIs(type(told), list)
        self.assertEqual(told, plain_led(kind, number), (kind, number))
        left = number
        for root in told:
            self.assertIs(type(root), int)
            self.assertLessEqual(SHAPES[kind][root], left)
            self.assertGreater(SHAPES[kind][root + 1], left)
            left -= SHAPES[kind][root]
        self.assertEqual(left, 0)

    def test_the_first_ones_written_out(self):
        self.assertEqual([led(0, number) for number in range(9)],
                         [[], [1], [1, 1], [1, 1, 1], [2], [2, 1], [2, 1, 1], [2, 1, 1, 1], [2, 2]])
        self.assertEqual([led(1, number) for number in range(9)],
                         [[], [1], [1, 1], [2], [2, 1], [2, 1, 1], [3], [3, 1], [3, 1, 1]])

    def test_the_greatest_ones_written_out(self):
        self.assertEqual(led(0, MILLION), [1000])
        self.assertEqual(led(0, 999999), [999, 44, 7, 3, 2])
        self.assertEqual(led(1, MILLION), [1413, 44, 5, 2, 1])
        self.assertEqual(led(1, 999999), [1413, 44, 5, 2])

    def test_a_stretch_from_nought(self):
        for kind in KINDS:
            for number in range(3000):
                self.check(kind, number)

    def test_shapes_and_their_neighbours(self):
        for kind in KINDS:
            for root, worth in enumerate(SHAPES[kind]):
                for number in (worth - 1, worth, worth + 1):
                    if 0 <= number <= MILLION:
                        self.check(kind, number)
                if 1 <= worth <= MILLION:
                    self.assertEqual(led(kind, worth), [root])

    def test_spread_to_a_million(self):
        for kind in KINDS:
            for number in list(range(0, MILLION, 997)) + list(range(MILLION - 300, MILLION + 1)):
                self.check(kind, number)

    def test_told_again_it_is_new(self):
        for kind in KINDS:
            for number in (0, 1, 7, 23, 999999, MILLION):
                first = led(kind, number)
                first.append(77)
                first[0] = 99
                second = led(kind, number)
                self.assertIsNot(first, second)
                self.assertEqual(second, plain_led(kind, number))


class HowManyTests(unittest.TestCase):
    bounds = (0, 1, 2, 3, 4, 5, 6, 7, 22, 23, 24, 166, 167, 229, 230, 999, 5000, 7222, 7223, 9999, 10000)

    def test_against_a_table(self):
        for kind in KINDS:
            for bound in self.bounds:
                steps = plain_steps(kind)[1:bound + 1]
                counts = []
                for many in range(1, 13):
                    told = how_many(kind, bound, many)
                    self.assertIs(type(told), int)
                    self.assertEqual(told, steps.count(many), (kind, bound, many))
                    counts.append(told)
                self.assertEqual(sum(counts), bound)

    def test_every_small_bound(self):
        for kind in KINDS:
            for bound in range(200):
                for many in range(1, 6):
                    wanted = plain_steps(kind)[1:bound + 1].count(many)
                    self.assertEqual(how_many(kind, bound, many), wanted, (kind, bound, many))

    def test_one_step_is_for_the_shapes_alone(self):
        self.assertEqual(how_many(0, 10000, 1), 100)
        self.assertEqual(how_many(0, 9999, 1), 99)
        self.assertEqual(how_many(1, 10000, 1), 140)
        self.assertEqual(how_many(1, 9870, 1), 140)
        self.assertEqual(how_many(1, 9869, 1), 139)

    def test_nought_is_not_counted(self):
        for kind in KINDS:
            for many in range(1, 13):
                self.assertEqual(how_many(kind, 0, many), 0)


class NumberByTests(unittest.TestCase):
    def listed(self, kind, many):
        return [number for number, steps in enumerate(plain_steps(kind)) if steps == many]

    def test_first_last_and_beyond(self):
        for kind in KINDS:
            for many in range(1, 13):
                numbers = self.listed(kind, many)
                with self.subTest(kind=kind, many=many):
                    if numbers:
                        self.assertEqual(number_by(kind, many, 0), numbers[0])
                        self.assertEqual(number_by(kind, many, len(numbers) - 1), numbers[-1])
                    assert_refused(self, BadSpot, number_by, kind, many, len(numbers))
                    assert_refused(self, BadSpot, number_by, kind, many, len(numbers) + 1)
                    assert_refused(self, BadSpot, number_by, kind, many, -1)

    def test_spots_between(self):
        for kind in KINDS:
            for many in range(1, 13):
                numbers = self.listed(kind, many)
                for spot in range(0, len(numbers), 1 + len(numbers) // 60):
                    told = number_by(kind, many, spot)
                    self.assertIs(type(told), int)
                    self.assertEqual(told, numbers[spot], (kind, many, spot))

    def test_written_out(self):
        self.assertEqual([number_by(0, 1, spot) for spot in (0, 1, 2, 99)], [1, 4, 9, 10000])
        self.assertEqual([number_by(1, 1, spot) for spot in (0, 1, 2, 139)], [1, 3, 6, 9870])
        self.assertEqual(number_by(0, 7, 0), 7223)
        self.assertEqual(number_by(1, 5, 0), 230)
        assert_refused(self, BadSpot, number_by, 0, 8, 0)
        assert_refused(self, BadSpot, number_by, 1, 6, 0)


class LeastLongTests(unittest.TestCase):
    def test_the_small_ones_against_a_table(self):
        for kind in KINDS:
            steps = [len(plain_led(kind, number)) for number in range(30001)]
            for many in range(1, max(steps) + 1):
                self.assertEqual(least_long(kind, many), steps.index(many), (kind, many))

    def test_written_out(self):
        self.assertEqual([least_long(0, many) for many in range(1, 9)], [1, 2, 3, 7, 23, 167, 7223, 13053767])
        self.assertEqual([least_long(1, many) for many in range(1, 8)], [1, 2, 5, 20, 230, 26795, 359026205])

    def test_the_great_ones_are_led_so_long(self):
        for kind in KINDS:
            for many in range(1, 13):
                told = least_long(kind, many)
                self.assertIs(type(told), int)
                self.assertEqual(lead_in_the_test(kind, told), many)

    def test_the_great_ones_are_the_least(self):
        # A number of one step more leaves at least the least one, and behind no root less than this one
        # is there room for so much before the next shape.
        for kind in KINDS:
            for many in range(1, 12):
                least = least_long(kind, many)
                more = least_long(kind, many + 1)
                if kind == 0:
                    root = math.isqrt(more)
                    self.assertEqual(more - root * root, least)
                    room_of_less = 2 * (root - 1)
                else:
                    root = (math.isqrt(8 * more + 1) - 1) // 2
                    self.assertEqual(more - root * (root + 1) // 2, least)
                    room_of_less = root - 1
                self.assertLess(room_of_less, least)


if __name__ == "__main__":
    unittest.main()
