"""Point 5 and the interface: a Few made by hand, and what its shows says then."""

import unittest

from plain import HUGE, KINDS, MILLION, plain_few
from squareleads.answers import Answer, Few
from squareleads.telling import fewest

SAMPLES = {
    0: (1, 4, 25, MILLION, 2, 5, 8, 50, 999997, 3, 6, 12, 27, 30, 54, 126, 786432, 999998,
        7, 15, 28, 60, 112, 240, 999999),
    1: (1, 3, 10, 998991, 2, 4, 7, 12, 60, MILLION, 5, 8, 26, 47, 173, 786432, 999997, 999998),
}

OTHER_WHYS = (
    ("one",), ("behind", 0), ("behind", 1), ("behind", 2), ("behind", 5), ("prime", 3, 1), ("prime", 7, 1),
    ("prime", 3, 2), ("prime", 3, 3), ("prime", 5, 1), ("prime", -1, 1), ("prime", 0, 0), ("prime", 1, 1),
    ("prime", HUGE, 1), ("seven", 0, 0), ("seven", 1, 0), ("seven", 0, 1), ("seven", 0, -1), ("seven", 12, 0),
    ("seven", 0, HUGE),
)


def changed_numbers(value):
    return (value + 1, value - 1, 0, 1, -1, -value, value + 4, 3 * value, HUGE + value, -HUGE)


def changed_roots(roots):
    """Give lists of roots that differ from the told one in one thing."""
    yield []
    yield roots + [1]
    yield roots + [0]
    yield roots + [-1]
    yield roots + roots
    yield [HUGE] + roots
    yield roots[::-1]
    yield [1] * 3000
    for at in range(len(roots)):
        yield roots[:at] + roots[at + 1:]
        yield roots[:at] + [roots[at]] + roots[at:]
        for root in changed_numbers(roots[at]):
            yield roots[:at] + [root] + roots[at + 1:]


def changed_whys(why):
    """Give whys that differ from the told one in one thing, then some of any text."""
    for at in range(1, len(why)):
        for value in changed_numbers(why[at]):
            yield why[:at] + (value,) + why[at + 1:]
    yield from OTHER_WHYS


class FewTests(unittest.TestCase):
    def check(self, kind, number, roots, why):
        wanted = plain_few(kind, number, roots, why)
        self.assertIs(Few(roots, why).shows(kind, number), wanted, (kind, number, roots[:5], why[:1]))
        return wanted

    def says(self, wanted, kind, number, roots, why):
        with self.subTest(kind=kind, number=number, roots=roots, why=why):
            self.assertIs(Few(roots, why).shows(kind, number), wanted)
            self.assertIs(plain_few(kind, number, roots, why), wanted)

    def test_every_change_of_the_roots(self):
        for kind in KINDS:
            for number in SAMPLES[kind]:
                told = fewest(kind, number)
                self.assertTrue(self.check(kind, number, told.roots, told.why))
                for roots in changed_roots(told.roots):
                    self.check(kind, number, roots, told.why)

    def test_every_change_of_the_why(self):
        for kind in KINDS:
            for number in SAMPLES[kind]:
                told = fewest(kind, number)
                for why in changed_whys(told.why):
                    self.check(kind, number, told.roots, why)

    def test_the_number_or_the_kind_is_another(self):
        for kind in KINDS:
            for number in SAMPLES[kind]:
                told = fewest(kind, number)
                self.check(1 - kind, number, told.roots, told.why)
                for other in (number - 1, number + 1, 4 * number):
                    if 1 <= other <= MILLION:
                        self.assertFalse(self.check(kind, other, told.roots, told.why))

    def test_small_ones_of_every_sort(self):
        whys = [("one",)] + [("behind", root) for root in range(-2, 8)]
        whys += [("prime", prime, times) for prime in range(-2, 24) for times in range(5)]
        whys += [("seven", fours, eights) for fours in range(4) for eights in range(-2, 6)]
        for kind in KINDS:
            for number in range(1, 41):
                roots = fewest(kind, number).roots
                shown = [why for why in whys if self.check(kind, number, roots, why)]
                self.assertEqual(len({why[0] for why in shown}), 1 if shown else 0)

    def test_any_roots_that_make_it_and_any_prime(self):
        self.says(True, 0, 50, [7, 1], ("behind", 7))
        self.says(True, 0, 50, [5, 5], ("behind", 7))
        self.says(True, 0, 42, [5, 4, 1], ("prime", 3, 1))
        self.says(True, 0, 42, [5, 4, 1], ("prime", 7, 1))
        self.says(True, 1, 173, fewest(1, 173).roots, ("prime", 7, 1))
        self.says(True, 1, 173, fewest(1, 173).roots, ("prime", 11, 1))
        self.says(True, 1, 26, [5, 4, 1], ("prime", 3, 1))
        self.says(True, 1, 26, [5, 4, 1], ("prime", 7, 1))

    def test_the_order_turned(self):
        self.says(False, 0, 5, [1, 2], ("behind", 2))
        self.says(False, 1, 4, [1, 2], ("behind", 2))
        self.says(False, 0, 6, [1, 2, 1], ("prime", 3, 1))
        self.says(False, 0, 6, [1, 1, 2], ("prime", 3, 1))
        self.says(False, 1, 5, [1, 2, 1], ("prime", 3, 1))
        self.says(False, 0, 7, [1, 2, 1, 1], ("seven", 0, 0))

    def test_roots_below_one_though_the_shapes_come_to_it(self):
        self.says(False, 0, 5, [2, -1], ("behind", 2))
        self.says(False, 0, 5, [-2, 1], ("behind", 2))
        self.says(False, 0, 4, [2, 0], ("behind", 2))
        self.says(False, 0, 4, [-2], ("one",))
        self.says(False, 1, 3, [-3], ("one",))
        self.says(False, 1, 3, [2, -1], ("behind", 2))

    def test_behind_too_small_or_too_great(self):
        for root, wanted in ((1, False), (2, True), (3, False), (0, False), (-2, False), (-3, False), (HUGE, False)):
            self.says(wanted, 0, 5, [2, 1], ("behind", root))
            self.says(wanted, 1, 4, [2, 1], ("behind", root))
        # A shape itself lies behind no root, however two shapes make it.
        self.says(False, 0, 25, [4, 3], ("behind", 4))
        self.says(False, 0, 25, [4, 3], ("behind", 5))
        self.says(False, 1, 6, [2, 2], ("behind", 2))
        self.says(False, 1, 6, [2, 2], ("behind", 3))

    def test_a_product_in_place_of_a_prime(self):
        self.says(True, 0, 30, [5, 2, 1], ("prime", 3, 1))
        self.says(False, 0, 30, [5, 2, 1], ("prime", 15, 1))
        self.says(False, 1, 26, [5, 4, 1], ("prime", 15, 1))
        self.says(False, 1, 26, [5, 4, 1], ("prime", 35, 1))
        self.says(False, 0, 27, [5, 1, 1], ("prime", 27, 1))

    def test_a_prime_of_another_rest(self):
        self.says(False, 0, 30, [5, 2, 1], ("prime", 5, 1))
        self.says(False, 0, 30, [5, 2, 1], ("prime", 2, 1))
        self.says(False, 1, 26, [5, 4, 1], ("prime", 5, 1))

    def test_a_prime_that_does_not_go_in(self):
        self.says(False, 0, 30, [5, 2, 1], ("prime", 7, 1))
        self.says(False, 0, 30, [5, 2, 1], ("prime", 7, 0))
        self.says(False, 1, 26, [5, 4, 1], ("prime", 11, 1))
        # Of triangles the number itself is not asked, of squares four times it and one isn't.
        self.says(False, 1, 14, [4, 2, 1], ("prime", 7, 1))
        self.says(True, 1, 14, [4, 2, 1], ("prime", 3, 1))
        self.says(False, 0, 14, [3, 2, 1], ("prime", 3, 1))
        self.says(True, 0, 14, [3, 2, 1], ("prime", 7, 1))

    def test_times(self):
        for times in range(13):
            self.says(times == 3, 0, 27, [5, 1, 1], ("prime", 3, times))
            self.says(times == 3, 1, 47, fewest(1, 47).roots, ("prime", 3, times))
            self.says(False, 0, 126, [11, 2, 1], ("prime", 3, times))
            self.says(False, 1, 173, fewest(1, 173).roots, ("prime", 3, times))
            self.says(False, 0, 9, [2, 2, 1], ("prime", 3, times))

    def test_fours_and_eights(self):
        for fours in range(13):
            for eights in (-1, 0, 1, 2, 3, 12, 13, 14):
                self.says((fours, eights) == (1, 0), 0, 28, [5, 1, 1, 1], ("seven", fours, eights))
                self.says((fours, eights) == (0, 1), 0, 15, [3, 2, 1, 1], ("seven", fours, eights))
                self.says((fours, eights) == (2, 0), 0, 112, [10, 2, 2, 2], ("seven", fours, eights))
        self.says(False, 0, 4, [1, 1, 1, 1], ("seven", 0, 0))
        self.says(False, 0, 4, [1, 1, 1, 1], ("seven", 1, 0))

    def test_seven_is_of_squares_alone(self):
        self.says(False, 1, 7, [2, 2, 1], ("seven", 0, 0))
        self.says(False, 1, 7, [3, 1], ("seven", 0, 0))
        self.says(False, 1, 15, [3, 3, 2], ("seven", 0, 1))
        self.says(False, 1, 15, [3, 2, 2, 2], ("seven", 0, 1))

    def test_more_roots_than_the_why_is_for(self):
        self.says(False, 0, 25, [4, 3], ("one",))
        self.says(False, 0, 50, [5, 4, 3], ("behind", 7))
        self.says(False, 0, 12, [3, 1, 1, 1], ("prime", 3, 1))
        self.says(False, 0, 7, [1] * 7, ("seven", 0, 0))
        self.says(False, 1, 6, [2, 2], ("one",))
        self.says(False, 1, 4, [1] * 4, ("behind", 2))
        self.says(False, 1, 5, [1] * 5, ("prime", 3, 1))

    def test_fewer_roots_than_the_why_is_for(self):
        self.says(False, 0, 4, [2], ("behind", 1))
        self.says(False, 0, 5, [2, 1], ("prime", 3, 1))
        self.says(False, 0, 6, [2, 1, 1], ("seven", 0, 0))
        self.says(False, 1, 5, [2, 1, 1], ("seven", 0, 0))

    def test_by_the_fields_as_they_stand_then(self):
        few = fewest(0, 50)
        self.assertIs(few.shows(0, 50), True)
        few.roots[0] += 1
        self.assertIs(few.shows(0, 50), False)
        few.roots = [5, 5]
        self.assertIs(few.shows(0, 50), True)
        few.why = ("behind", 6)
        self.assertIs(few.shows(0, 50), False)
        few.why = ("behind", 7)
        self.assertIs(few.shows(0, 50), True)
        few.roots.append(1)
        self.assertIs(few.shows(0, 50), False)

    def test_the_fields(self):
        roots = [2, 1]
        few = Few(roots, ("behind", 2))
        self.assertIsInstance(few, Answer)
        self.assertEqual(Few.__bases__, (Answer,))
        self.assertIn("shows", vars(Few))
        self.assertEqual((few.roots, few.why), ([2, 1], ("behind", 2)))
        self.assertIsNot(few.roots, roots)
        roots.append(7)
        self.assertEqual(few.roots, [2, 1])
        few.roots.append(9)
        self.assertEqual(roots, [2, 1, 7])

    def test_asking_changes_nothing(self):
        few = Few([5, 2, 1], ("prime", 3, 1))
        for number in (29, 30, 31):
            few.shows(0, number)
            self.assertEqual((few.roots, few.why), ([5, 2, 1], ("prime", 3, 1)))

    def test_what_is_no_number_shows_nothing(self):
        self.assertIs(Few([True], ("one",)).shows(0, 1), False)
        self.assertIs(Few([1, True], ("behind", 1)).shows(0, 2), False)
        self.assertIs(Few([1, 1], ("behind", True)).shows(0, 2), False)
        self.assertIs(Few([1, 1, 1], ("prime", 3, True)).shows(0, 3), False)
        self.assertIs(Few([2, 1, 1, 1], ("seven", False, 0)).shows(0, 7), False)
        for why in ((), ("two",), (1,), ("one", 1), ("behind",), ("prime", 3), ["one"], None, "one"):
            with self.subTest(why=why):
                self.assertIs(Few([1], why).shows(0, 1), False)


if __name__ == "__main__":
    unittest.main()
