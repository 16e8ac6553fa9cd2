"""The errors of the interface: their names and what they stand under."""

import unittest

from squareleads import errors

NAMES = ("BadKind", "BadNumber", "BadMany", "BadSpot", "BadRoots", "BadRoot", "TooMuch")


class ErrorTests(unittest.TestCase):
    def test_lead_error_stands_straight_under_value_error(self):
        self.assertEqual(errors.LeadError.__bases__, (ValueError,))

    def test_each_stands_straight_under_lead_error(self):
        for name in NAMES:
            with self.subTest(name=name):
                self.assertEqual(getattr(errors, name).__bases__, (errors.LeadError,))

    def test_each_has_its_own_name(self):
        for name in NAMES + ("LeadError",):
            with self.subTest(name=name):
                self.assertEqual(getattr(errors, name).__name__, name)

    def test_each_is_caught_by_every_name_above_it(self):
        for name in NAMES:
            kind = getattr(errors, name)
            for caught in (kind, errors.LeadError, ValueError):
                with self.subTest(name=name, caught=caught.__name__):
                    with self.assertRaises(caught) as seen:
                        raise kind("why")
                    self.assertIs(type(seen.exception), kind)
                    self.assertEqual(str(seen.exception), "why")

    def test_none_is_caught_as_another(self):
        for name in NAMES:
            for other in NAMES:
                if name != other:
                    with self.subTest(name=name, other=other):
                        self.assertFalse(issubclass(getattr(errors, name), getattr(errors, other)))


if __name__ == "__main__":
    unittest.main()
