"""Point 1 and the interface: what the functions of telling refuse, and in which order."""

import unittest

from plain import HUGE, MILLION, NO_NUMBERS, assert_refused, plain_judge
from squareleads.errors import BadKind, BadMany, BadNumber, BadRoots, BadSpot
from squareleads.telling import fewest, how_many, judged, led, least_long, number_by

KIND = (BadKind, (0, 1), (-1, 2, HUGE, -HUGE) + NO_NUMBERS)
MANY = (BadMany, (1, 12), (0, 13, -1, HUGE, -HUGE) + NO_NUMBERS)
NUMBER = (BadNumber, (1, MILLION), (0, MILLION + 1, -1, HUGE, -HUGE) + NO_NUMBERS)
NUMBER_OR_NOUGHT = (BadNumber, (0, 1, MILLION), (-1, MILLION + 1, HUGE, -HUGE) + NO_NUMBERS)
BOUND = (BadNumber, (0, 1, 10000), (-1, 10001, HUGE, -HUGE) + NO_NUMBERS)
SPOT = (BadSpot, (), (-1, 10001, HUGE, -HUGE) + NO_NUMBERS)
NO_LISTS = (True, False, None, 0, 1, "", "11", b"\x01", (), (1,), (1, 1), {}, {1: 1}, {1}, range(2), object(), list)
ROOTS = (BadRoots, ([], [1], [0], [-1, 5], [HUGE, -HUGE], [1] * 12), NO_LISTS + ([1] * 13, [0] * 14, [None], [[1]]))

# Each argument with its refusal, in the order in which the refusals are told.
ASKED = (
    (led, (KIND, NUMBER_OR_NOUGHT)),
    (how_many, (KIND, BOUND, MANY)),
    (number_by, (KIND, MANY, SPOT)),
    (least_long, (KIND, MANY)),
    (fewest, (KIND, NUMBER)),
    (judged, (KIND, NUMBER, ROOTS)),
)
RIGHT = {led: (0, 5), how_many: (0, 5, 1), number_by: (0, 1, 0), least_long: (0, 3), fewest: (0, 5),
         judged: (0, 5, [2, 1])}


class RefusalTests(unittest.TestCase):
    def test_one_wrong(self):
        for asked, limits in ASKED:
            for at, (refusal, good, bad) in enumerate(limits):
                for value in bad:
                    given = list(RIGHT[asked])
                    given[at] = value
                    assert_refused(self, refusal, asked, *given)

    def test_just_within(self):
        for asked, limits in ASKED:
            for at, (refusal, good, bad) in enumerate(limits):
                for value in good:
                    given = list(RIGHT[asked])
                    given[at] = value
                    # Of many steps no number to 10000 may have the spot; all else is answered.
                    if asked is number_by and value == 12:
                        assert_refused(self, BadSpot, asked, *given)
                    else:
                        self.assertIsNotNone(asked(*given))

    def test_of_two_wrong_the_one_told_first(self):
        for asked, limits in ASKED:
            for first in range(len(limits)):
                for second in range(first + 1, len(limits)):
                    for value in limits[first][2]:
                        for other in limits[second][2]:
                            given = list(RIGHT[asked])
                            given[first], given[second] = value, other
                            assert_refused(self, limits[first][0], asked, *given)

    def test_all_wrong(self):
        for asked, limits in ASKED:
            for value in (True, None, "x", -1):
                assert_refused(self, BadKind, asked, *[value for limit in limits])

    def test_one_thing_in_the_list_that_is_no_number(self):
        for many in (1, 2, 3, 12):
            for at in range(many):
                for value in NO_NUMBERS:
                    roots = [1] * many
                    roots[at] = value
                    kept = list(roots)
                    assert_refused(self, BadRoots, judged, 0, many, roots)
                    self.assertEqual(len(roots), many)
                    self.assertTrue(all(was is now for was, now in zip(kept, roots)))

    def test_no_number_behind_a_fault(self):
        assert_refused(self, BadRoots, judged, 0, 5, [0, True])
        assert_refused(self, BadRoots, judged, 0, 5, [9, 9, "1"])
        assert_refused(self, BadRoots, judged, 1, 1, [1, 1, None])

    def test_a_list_handed_in_stays(self):
        for kind, number, roots in ((0, 5, [2, 1]), (0, 5, [1, 2]), (1, 5, [9, 0, -4]), (1, 1, [])):
            kept = list(roots)
            told = judged(kind, number, roots)
            self.assertEqual(roots, kept)
            wanted = plain_judge(kind, number, kept)
            roots.append(77)
            self.assertIs(told.shows(kind, number, kept), True)
            self.assertIn(wanted[1], vars(told).values())
            self.assertNotIn(roots, vars(told).values())
        for kind, number, roots in ((2, 5, [2, 1]), (0, 0, [2, 1]), (0, 5, [1] * 13), (0, 5, [2, "1"])):
            kept = list(roots)
            with self.assertRaises(ValueError):
                judged(kind, number, roots)
            self.assertEqual(roots, kept)

    def test_a_refusal_changes_no_later_answer(self):
        for asked, limits in ASKED:
            before = asked(*RIGHT[asked])
            for value in limits[0][2]:
                with self.assertRaises(BadKind):
                    asked(value, *RIGHT[asked][1:])
            after = asked(*RIGHT[asked])
            if type(before) in (int, list):
                self.assertEqual(before, after)
            else:
                self.assertEqual(vars(before), vars(after))


if __name__ == "__main__":
    unittest.main()
