"""Point 5: the fewest roots that make a number, and why no fewer do."""

import unittest

from plain import KINDS, MILLION, SHAPES, plain_fewest, plain_few, plain_making, plain_prime
from squareleads.answers import Few
from squareleads.telling import fewest


class FewestTests(unittest.TestCase):
    texts = {1: "one", 2: "behind", 3: "prime", 4: "seven"}

    def check(self, kind, number):
        told = fewest(kind, number)
        place = (kind, number, told.roots, told.why)
        self.assertIs(type(told), Few)
        self.assertIs(type(told.roots), list)
        self.assertIs(type(told.why), tuple)
        for root in told.roots:
            self.assertIs(type(root), int, place)
        for value in told.why[1:]:
            self.assertIs(type(value), int, place)
        self.assertTrue(plain_making(kind, number, told.roots), place)
        self.assertEqual(len(told.roots), plain_fewest(kind)[number], place)
        self.assertEqual(told.why[0], self.texts[len(told.roots)], place)
        self.assertTrue(plain_few(kind, number, told.roots, told.why), place)
        self.assertIs(told.shows(kind, number), True, place)
        return told

    def test_a_stretch_from_one(self):
        for kind in KINDS:
            for number in range(1, 4001):
                self.check(kind, number)

    def test_the_stretch_against_a_table_of_makings(self):
        # Another way to the same table: one root more than the fewest of what is left behind some root.
        for kind in KINDS:
            fewest_of = [0]
            for number in range(1, 4001):
                fewest_of.append(1 + min(fewest_of[number - worth] for worth in SHAPES[kind][1:] if worth <= number))
            for number in range(1, 4001):
                self.assertEqual(len(fewest(kind, number).roots), fewest_of[number], (kind, number))

    def test_near_a_million(self):
        for kind in KINDS:
            for number in range(MILLION - 400, MILLION + 1):
                self.check(kind, number)

    def test_spread_to_a_million(self):
        for kind in KINDS:
            for number in range(1, MILLION, 1999):
                self.check(kind, number)

    def test_shapes_and_their_neighbours(self):
        for kind in KINDS:
            for root in range(1, len(SHAPES[kind]) - 1):
                if root < 60 or root % 37 == 0 or root > 970:
                    worth = SHAPES[kind][root]
                    told = self.check(kind, worth)
                    self.assertEqual((told.roots, told.why), ([root], ("one",)))
                    for number in (worth - 1, worth + 1):
                        if 1 <= number <= MILLION:
                            self.check(kind, number)

    def test_four_times_a_number(self):
        for number in list(range(1, 400)) + [249999, 250000]:
            told = self.check(0, number)
            again = self.check(0, 4 * number)
            self.assertEqual(len(told.roots), len(again.roots))
            self.check(1, 4 * number)

    def test_rest_seven_by_eight(self):
        for eights in list(range(200)) + [7811, 31249, 124998, 124999]:
            number = 8 * eights + 7
            for fours, worth in ((0, number), (1, 4 * number), (2, 16 * number)):
                if worth <= MILLION:
                    told = self.check(0, worth)
                    self.assertEqual(len(told.roots), 4)
                    self.assertEqual(told.why, ("seven", fours, eights))
                    self.check(1, worth)

    def test_sevens_by_every_power_of_four(self):
        for fours in range(9):
            worth = 7 * 4 ** fours
            self.assertLessEqual(worth, MILLION)
            self.assertEqual(self.check(0, worth).why, ("seven", fours, 0))

    def test_primes_of_rest_three_by_four(self):
        primes = [number for number in range(3, 200, 4) if plain_prime(number)] + [9967, 99991, 333331]
        for prime in primes:
            for times in (1, 2, 3):
                for other in (1, 2, 3, 5, 6, 10, 13, 21, 26):
                    number = other * prime ** times
                    if number <= MILLION:
                        self.check(0, number)
                    # Of triangles the prime is to go into four times the number and one.
                    if number % 4 == 1 and 1 < number <= 4 * MILLION + 1:
                        self.check(1, (number - 1) // 4)

    def test_one_prime_alone_once_and_thrice(self):
        self.assertEqual(self.check(0, 3).why, ("prime", 3, 1))
        self.assertEqual(self.check(0, 27).why, ("prime", 3, 3))
        self.assertEqual(self.check(0, 243).why, ("prime", 3, 5))
        self.assertEqual(self.check(0, 177147).why, ("prime", 3, 11))
        self.assertEqual(self.check(0, 9 * 2 * 7).why, ("prime", 7, 1))
        self.assertEqual(self.check(0, 2 * 499979).why, ("prime", 499979, 1))
        self.assertEqual(self.check(0, 9 * 5).why, ("behind", 6))
        self.assertEqual(self.check(1, 44).why[0], "prime")
        self.assertEqual(len(self.check(1, (9 * 5 - 1) // 4).roots), 2)

    def test_told_again_it_is_new(self):
        for kind in KINDS:
            for number in (1, 2, 5, 7, 28, 999999):
                first = self.check(kind, number)
                first.roots.append(5)
                first.roots[0] = 0
                first.why = ("behind", 0)
                second = self.check(kind, number)
                self.assertIsNot(first, second)
                self.assertIsNot(first.roots, second.roots)


if __name__ == "__main__":
    unittest.main()
