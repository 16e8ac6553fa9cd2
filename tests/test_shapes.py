"""Points 1 and 2: what a number is, the shapes of both kinds, and makings."""

import itertools
import unittest

from plain import NO_NUMBERS, plain_making, plain_shape
from squareleads import shapes


class NumberTests(unittest.TestCase):
    def test_numbers(self):
        for value in (0, 1, -1, 12, 1000000, -(10 ** 40), 10 ** 40):
            with self.subTest(value=value):
                self.assertIs(shapes.is_number(value), True)

    def test_no_numbers(self):
        for value in NO_NUMBERS:
            with self.subTest(value=value):
                self.assertIs(shapes.is_number(value), False)

    def test_kinds(self):
        self.assertEqual((shapes.SQUARES, shapes.TRIANGLES), (0, 1))
        self.assertIs(shapes.is_kind(0), True)
        self.assertIs(shapes.is_kind(1), True)

    def test_no_kinds(self):
        for value in (-1, 2, 3, 10 ** 40) + NO_NUMBERS:
            with self.subTest(value=value):
                self.assertIs(shapes.is_kind(value), False)

    def test_roots(self):
        for value in (1, 2, 1000, 1414, 10 ** 40):
            with self.subTest(value=value):
                self.assertIs(shapes.is_root(value), True)

    def test_no_roots(self):
        for value in (0, -1, -1000, -(10 ** 40)) + NO_NUMBERS:
            with self.subTest(value=value):
                self.assertIs(shapes.is_root(value), False)


class ShapeTests(unittest.TestCase):
    def test_first_squares(self):
        self.assertEqual(shapes.shape(0, 1), 1)
        self.assertEqual(shapes.shape(0, 2), 4)
        self.assertEqual(shapes.shape(0, 3), 9)
        self.assertEqual(shapes.shape(0, 4), 16)

    def test_first_triangles(self):
        self.assertEqual(shapes.shape(1, 1), 1)
        self.assertEqual(shapes.shape(1, 2), 3)
        self.assertEqual(shapes.shape(1, 3), 6)
        self.assertEqual(shapes.shape(1, 4), 10)

    def test_root_nought(self):
        self.assertEqual(shapes.shape(0, 0), 0)
        self.assertEqual(shapes.shape(1, 0), 0)

    def test_against_a_plain_sum(self):
        for kind in (0, 1):
            for root in range(1, 301):
                with self.subTest(kind=kind, root=root):
                    self.assertEqual(shapes.shape(kind, root), plain_shape(kind, root))

    def test_around_a_million(self):
        told = ((0, 999, 998001), (0, 1000, 1000000), (0, 1001, 1002001),
                (1, 1412, 997578), (1, 1413, 998991), (1, 1414, 1000405))
        for kind, root, number in told:
            with self.subTest(kind=kind, root=root):
                self.assertEqual(shapes.shape(kind, root), number)
                self.assertEqual(plain_shape(kind, root), number)

    def test_shapes_are_whole_numbers_however_great(self):
        root = 10 ** 30 + 1
        self.assertEqual(shapes.shape(0, root), 10 ** 60 + 2 * 10 ** 30 + 1)
        self.assertEqual(2 * shapes.shape(1, root), (10 ** 30 + 1) * (10 ** 30 + 2))
        self.assertIs(type(shapes.shape(0, root)), int)
        self.assertIs(type(shapes.shape(1, root)), int)

    def test_together(self):
        self.assertEqual(shapes.together(0, []), 0)
        self.assertEqual(shapes.together(1, []), 0)
        self.assertEqual(shapes.together(0, [3, 2, 1, 1]), 15)
        self.assertEqual(shapes.together(1, [3, 2, 1, 1]), 11)

    def test_never_rises(self):
        for numbers in ([], [5], [5, 5], [5, 4, 4, 1]):
            with self.subTest(numbers=numbers):
                self.assertIs(shapes.never_rises(numbers), True)
        for numbers in ([1, 2], [5, 4, 5], [3, 3, 4], [2, 3, 1]):
            with self.subTest(numbers=numbers):
                self.assertIs(shapes.never_rises(numbers), False)


class MakingTests(unittest.TestCase):
    def check(self, kind, number, roots, wanted):
        kept = list(roots)
        with self.subTest(kind=kind, number=number, roots=roots):
            self.assertIs(shapes.is_making(kind, number, roots), wanted)
            self.assertEqual(roots, kept)

    def test_makings(self):
        self.check(0, 1, [1], True)
        self.check(0, 12, [3, 1, 1, 1], True)
        self.check(0, 12, [2, 2, 2], True)
        self.check(0, 23, [4, 2, 1, 1, 1], True)
        self.check(0, 23, [3, 3, 2, 1], True)
        self.check(0, 1000000, [1000], True)
        self.check(0, 1000000, [800, 600], True)
        self.check(1, 1, [1], True)
        self.check(1, 5, [2, 1, 1], True)
        self.check(1, 12, [3, 3], True)
        self.check(1, 12, [4, 1, 1], True)
        self.check(1, 998991, [1413], True)
        self.check(1, 1000000, [1413] + [1] * 1009, True)

    def test_nothing_makes_nought(self):
        self.check(0, 0, [], True)
        self.check(1, 0, [], True)
        self.check(0, 1, [], False)
        self.check(1, 1, [], False)

    def test_a_root_below_one(self):
        self.check(0, 4, [2, 0], False)
        self.check(1, 3, [2, 0], False)
        self.check(0, 5, [2, -1], False)
        self.check(1, 3, [2, -1], False)
        self.check(0, 0, [0], False)
        self.check(1, 0, [0], False)

    def test_a_root_greater_than_the_one_ahead(self):
        self.check(0, 5, [1, 2], False)
        self.check(1, 4, [1, 2], False)
        self.check(0, 14, [3, 1, 2], False)
        self.check(1, 10, [3, 1, 2], False)

    def test_shapes_that_come_to_less(self):
        self.check(0, 6, [2, 1], False)
        self.check(1, 5, [2, 1], False)
        self.check(0, 1000001, [1000], False)
        self.check(1, 998992, [1413], False)

    def test_shapes_that_come_to_more(self):
        self.check(0, 4, [2, 1], False)
        self.check(1, 3, [2, 1], False)
        self.check(0, 999999, [1000], False)
        self.check(1, 1000000, [1414], False)

    def test_numbers_below_nought_have_none(self):
        self.check(0, -1, [], False)
        self.check(0, -1, [1], False)
        self.check(1, -1, [-1], False)

    def test_against_the_plain_words(self):
        for kind in (0, 1):
            for many in range(4):
                for roots in itertools.product(range(-1, 5), repeat=many):
                    for number in range(-1, 30):
                        wanted = plain_making(kind, number, roots)
                        self.assertIs(shapes.is_making(kind, number, list(roots)), wanted,
                                      (kind, number, roots))

    def test_true_and_false_are_no_numbers(self):
        self.check(0, 1, [True], False)
        self.check(1, 2, [1, True], False)
        self.check(0, 1, [1, False], False)
        self.check(0, True, [1], False)
        self.check(1, False, [], False)
        self.check(False, 4, [2], False)
        self.check(True, 3, [2], False)

    def test_what_is_no_number_or_no_list(self):
        for value in NO_NUMBERS:
            with self.subTest(value=value):
                self.assertIs(shapes.is_making(value, 1, [1]), False)
                self.assertIs(shapes.is_making(0, value, [1]), False)
                self.assertIs(shapes.is_making(0, 1, [value]), False)
                self.assertIs(shapes.is_making(0, 2, [1, value]), False)
        for roots in (None, 1, "1", b"\x01", (1,), {1: 1}, {1}, range(1, 2)):
            with self.subTest(roots=roots):
                self.assertIs(shapes.is_making(0, 1, roots), False)
        self.assertIs(shapes.is_making(2, 1, [1]), False)
        self.assertIs(shapes.is_making(-1, 1, [1]), False)


if __name__ == "__main__":
    unittest.main()
