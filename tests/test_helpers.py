"""What the told answers rest on: greatest roots, makings of just so many roots, primes."""

import unittest

from plain import KINDS, SHAPES, plain_making, plain_prime
from squareleads.leading import greatest_root
from squareleads.makings import three_roots, two_roots
from squareleads.whys import is_prime, stripped


class HelperTests(unittest.TestCase):
    def test_greatest_root(self):
        for kind in KINDS:
            root = 0
            for number in range(2000):
                if SHAPES[kind][root + 1] <= number:
                    root += 1
                self.assertEqual(greatest_root(kind, number), root, (kind, number))

    def test_two_and_three_roots_are_just_so_many(self):
        for kind in KINDS:
            worths = [worth for worth in SHAPES[kind][1:] if worth <= 400]
            twos = {one + other for one in worths for other in worths}
            threes = {one + other for one in twos for other in worths}
            for number in range(400):
                for many, roots, sums in ((2, two_roots(kind, number), twos), (3, three_roots(kind, number), threes)):
                    self.assertEqual(len(roots), many if number in sums else 0, (kind, number, roots))
                    if roots:
                        self.assertTrue(plain_making(kind, number, roots), (kind, number, roots))

    def test_primes(self):
        for number in range(-5, 3000):
            self.assertIs(is_prime(number), plain_prime(number), number)
        self.assertEqual([number for number in range(20) if is_prime(number)], [2, 3, 5, 7, 11, 13, 17, 19])

    def test_stripped(self):
        for factor in (2, 3, 4, 7):
            for times in range(6):
                for left in (1, 5, 11, 13):
                    self.assertEqual(stripped(factor, left * factor ** times), (times, left))


if __name__ == "__main__":
    unittest.main()
