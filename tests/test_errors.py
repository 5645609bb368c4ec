import unittest

from meterbook import errors

NAMES = ("TooLate", "NoCounter", "NoMark", "BadValue", "TooFast", "TooEarly", "BadRow")


class ErrorsTest(unittest.TestCase):
    def test_any_refusal_is_a_value_error(self):
        self.assertEqual(errors.MeterError.__bases__, (ValueError,))

    def test_each_stands_straight_under_meter_error(self):
        for name in NAMES:
            with self.subTest(name):
                self.assertEqual(getattr(errors, name).__bases__, (errors.MeterError,))

    def test_none_is_taken_for_another(self):
        classes = [getattr(errors, name) for name in NAMES]
        for one in classes:
            for other in classes:
                if one is not other:
                    self.assertFalse(issubclass(one, other))

    def test_each_can_be_raised_and_taken_as_any_refusal(self):
        for name in NAMES:
            with self.subTest(name):
                for taken in (errors.MeterError, ValueError):
                    with self.assertRaises(taken):
                        raise getattr(errors, name)(1)

    def test_bad_row_bears_its_row(self):
        self.assertEqual(errors.BadRow(3).row, 3)
        self.assertEqual(errors.BadRow(1).row, 1)
        with self.assertRaises(errors.BadRow) as caught:
            raise errors.BadRow(12)
        self.assertEqual(caught.exception.row, 12)

    def test_rows_are_each_errors_own(self):
        one = errors.BadRow(1)
        other = errors.BadRow(2)
        self.assertEqual((one.row, other.row), (1, 2))
