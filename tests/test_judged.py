"""Point 6: makings judged, and Makes and Fails made by hand."""

import itertools
import unittest

from plain import HUGE, KINDS, MILLION, assert_refused, plain_fewest, plain_judge, plain_led
from squareleads.answers import Answer, Fails, Makes
from squareleads.errors import BadRoots
from squareleads.telling import judged


def told_as(answer):
    """Give a told answer as plain_judge gives it."""
    if type(answer) is Makes:
        return "makes", answer.more
    return "fails", answer.step


class JudgedTests(unittest.TestCase):
    def check(self, kind, number, roots):
        kept = list(roots)
        wanted = plain_judge(kind, number, roots)
        told = judged(kind, number, roots)
        self.assertIn(type(told), (Makes, Fails))
        self.assertIs(type(told_as(told)[1]), int)
        self.assertEqual(told_as(told), wanted, (kind, number, len(roots)))
        self.assertIs(told.shows(kind, number, roots), True)
        self.assertEqual(roots, kept)
        return wanted

    def says(self, wanted, kind, number, roots):
        with self.subTest(kind=kind, number=number, roots=roots):
            self.assertEqual(self.check(kind, number, roots), wanted)

    def test_makings_of_the_fewest(self):
        self.says(("makes", 0), 0, 1, [1])
        self.says(("makes", 0), 0, 50, [7, 1])
        self.says(("makes", 0), 0, 50, [5, 5])
        self.says(("makes", 0), 0, 12, [2, 2, 2])
        self.says(("makes", 0), 0, 23, [3, 3, 2, 1])
        self.says(("makes", 0), 0, MILLION, [1000])
        self.says(("makes", 0), 1, 1, [1])
        self.says(("makes", 0), 1, 12, [3, 3])
        self.says(("makes", 0), 1, 5, [2, 1, 1])
        self.says(("makes", 0), 1, 998991, [1413])
        self.says(("makes", 0), 1, MILLION, [1195, 755])

    def test_makings_of_more(self):
        self.says(("makes", 1), 0, 12, [3, 1, 1, 1])
        self.says(("makes", 9), 0, 12, [1] * 12)
        self.says(("makes", 1), 0, MILLION, [800, 600])
        self.says(("makes", 3), 0, MILLION, [500, 500, 500, 500])
        self.says(("makes", 11), 0, 144, [4] * 8 + [2] * 4)
        self.says(("makes", 1), 1, 12, [4, 1, 1])
        self.says(("makes", 10), 1, 12, [1] * 12)
        self.says(("makes", 3), 1, MILLION, plain_led(1, MILLION))
        self.says(("makes", 1), 1, 6, [2, 2])

    def test_leads_are_makings(self):
        for kind in KINDS:
            for number in list(range(1, 600)) + list(range(MILLION - 60, MILLION + 1)):
                roots = plain_led(kind, number)
                self.says(("makes", len(roots) - plain_fewest(kind)[number]), kind, number, roots)

    def test_below_one(self):
        for kind in KINDS:
            for root in (0, -1, -1000, -HUGE):
                self.assertEqual(self.check(kind, 30, [root, 1, 1]), ("fails", 0))
                self.assertEqual(self.check(kind, 30, [2, root, 1]), ("fails", 1))
                self.assertEqual(self.check(kind, 30, [2, 1, root]), ("fails", 2))
        self.says(("fails", 1), 0, 4, [2, 0])
        self.says(("fails", 1), 1, 3, [2, 0])
        self.says(("fails", 1), 1, 3, [2, -1])
        self.says(("fails", 0), 0, 4, [-2])

    def test_greater_than_the_one_ahead(self):
        self.says(("fails", 1), 0, 5, [1, 2])
        self.says(("fails", 1), 1, 4, [1, 2])
        self.says(("fails", 2), 0, 14, [3, 1, 2])
        self.says(("fails", 2), 1, 10, [3, 1, 2])
        self.says(("fails", 1), 0, 15, [2, 3, 1, 1])
        self.says(("fails", 1), 1, 11, [2, 3, 1, 1])

    def test_a_shape_greater_than_what_is_left(self):
        self.says(("fails", 0), 0, 3, [2, 1, 1])
        self.says(("fails", 0), 1, 2, [2, 1, 1])
        self.says(("fails", 1), 0, 7, [2, 2, 1])
        self.says(("fails", 1), 1, 5, [2, 2, 1])
        self.says(("fails", 2), 0, 5, [2, 1, 1])
        self.says(("fails", 2), 1, 4, [2, 1, 1])
        self.says(("fails", 0), 0, 999999, [1000])
        self.says(("fails", 0), 1, MILLION, [1414])
        for kind in KINDS:
            self.assertEqual(self.check(kind, MILLION, [HUGE]), ("fails", 0))
            self.assertEqual(self.check(kind, MILLION, [1, HUGE]), ("fails", 1))

    def test_something_left_behind_all(self):
        self.says(("fails", 2), 0, 6, [2, 1])
        self.says(("fails", 2), 1, 5, [2, 1])
        self.says(("fails", 1), 0, MILLION, [999])
        self.says(("fails", 1), 1, 998992, [1413])
        self.says(("fails", 12), 0, 13, [1] * 12)
        self.says(("fails", 12), 1, 13, [1] * 12)

    def test_no_roots_at_all(self):
        for kind in KINDS:
            for number in (1, 2, MILLION):
                self.says(("fails", 0), kind, number, [])

    def test_twelve_and_thirteen(self):
        for kind in KINDS:
            self.says(("fails", 11), kind, 11, [1] * 12)
            self.says(("makes", 12 - plain_fewest(kind)[12]), kind, 12, [1] * 12)
            assert_refused(self, BadRoots, judged, kind, 13, [1] * 13)
            assert_refused(self, BadRoots, judged, kind, 1, [1] * 1000)

    def test_the_first_of_several_faults(self):
        self.says(("fails", 0), 0, 3, [0, 5, -1])
        self.says(("fails", 1), 0, 50, [2, 5, -1])
        self.says(("fails", 1), 1, 50, [2, -1, 5])
        self.says(("fails", 2), 1, 8, [3, 1, 9])

    def test_small_ones_against_the_plain_words(self):
        for kind in KINDS:
            for many in range(5):
                for roots in itertools.product(range(-1, 5), repeat=many):
                    for number in (1, 2, 3, 4, 5, 7, 10, 13, 18, 25):
                        self.check(kind, number, list(roots))

    def test_each_place_of_twelve(self):
        for kind in KINDS:
            for at in range(12):
                for root in (-1, 0, 1, 2, 3, 4):
                    roots = [3] * 6 + [2] * 6
                    number = sum(root * root if kind == 0 else root * (root + 1) // 2 for root in roots)
                    roots[at] = root
                    self.check(kind, number, roots)

    def test_told_again_it_is_new(self):
        for number in (12, 13):
            first = judged(0, number, [2, 2, 2])
            second = judged(0, number, [2, 2, 2])
            self.assertIsNot(first, second)


class ByHandTests(unittest.TestCase):
    asked = (
        (12, [2, 2, 2]), (12, [3, 1, 1, 1]), (12, [1] * 12), (12, [3, 3]), (12, [4, 1, 1]), (12, []), (12, [0]),
        (12, [1, 2]), (12, [2, 2]), (12, [5]), (12, [2, 2, 2, 1]), (1, [1]), (1, [1, 1]), (MILLION, [1000]),
        (MILLION, [1195, 755]), (MILLION, [HUGE]), (MILLION, [-HUGE]), (MILLION, [999] * 12),
    )

    def test_one_answer_alone_shows(self):
        values = list(range(-3, 16)) + [HUGE, -HUGE]
        for kind in KINDS:
            for number, roots in self.asked:
                wanted = plain_judge(kind, number, roots)
                shown = []
                for value in values:
                    kept = list(roots)
                    makes, fails = Makes(value), Fails(value)
                    says = makes.shows(kind, number, roots), fails.shows(kind, number, roots)
                    self.assertIn(says, ((True, False), (False, True), (False, False)))
                    self.assertIs(type(says[0]), bool)
                    self.assertIs(type(says[1]), bool)
                    shown += [("makes", value)] if says[0] else []
                    shown += [("fails", value)] if says[1] else []
                    self.assertEqual((makes.more, fails.step, roots), (value, value, kept))
                self.assertEqual(shown, [wanted])

    def test_at_most_one_of_small_ones(self):
        for kind in KINDS:
            for many in range(4):
                for roots in itertools.product(range(-1, 4), repeat=many):
                    for number in (1, 2, 3, 4, 6, 9):
                        wanted = plain_judge(kind, number, roots)
                        for value in range(-1, 5):
                            makes = Makes(value).shows(kind, number, list(roots))
                            fails = Fails(value).shows(kind, number, list(roots))
                            self.assertIs(makes, wanted == ("makes", value))
                            self.assertIs(fails, wanted == ("fails", value))

    def test_by_the_fields_as_they_stand_then(self):
        makes = judged(0, 12, [3, 1, 1, 1])
        self.assertIs(makes.shows(0, 12, [3, 1, 1, 1]), True)
        self.assertIs(makes.shows(0, 12, [2, 2, 2]), False)
        makes.more = 0
        self.assertIs(makes.shows(0, 12, [3, 1, 1, 1]), False)
        self.assertIs(makes.shows(0, 12, [2, 2, 2]), True)
        fails = judged(1, 12, [3, 4])
        self.assertIs(fails.shows(1, 12, [3, 4]), True)
        fails.step = 2
        self.assertIs(fails.shows(1, 12, [3, 4]), False)
        self.assertIs(fails.shows(1, 12, [3, 2]), True)

    def test_the_classes(self):
        self.assertEqual(Makes.__bases__, (Answer,))
        self.assertEqual(Fails.__bases__, (Answer,))
        self.assertIn("shows", vars(Makes))
        self.assertIn("shows", vars(Fails))
        self.assertEqual(Makes(3).more, 3)
        self.assertEqual(Fails(4).step, 4)

    def test_what_is_no_number_shows_nothing(self):
        for value in (True, False, None):
            self.assertIs(Makes(value).shows(0, 4, [2]), False)
            self.assertIs(Makes(value).shows(0, 25, [4, 3]), False)
            self.assertIs(Fails(value).shows(0, 4, [2]), False)
            self.assertIs(Fails(value).shows(0, 4, [3]), False)
            self.assertIs(Fails(value).shows(0, 4, [1, 2]), False)


if __name__ == "__main__":
    unittest.main()
