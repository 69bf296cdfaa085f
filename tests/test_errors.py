"""[10]: the errors."""

import unittest

from oldestbills import errors

PLAIN_ERRORS = (
    "InvalidAccount", "InvalidRough", "InvalidManner", "InvalidDay", "InvalidSum", "InvalidBill",
    "InvalidPayment", "InvalidIndex", "InvalidEntry", "InvalidLaying", "InvalidKind", "InvalidEdges",
    "InvalidBills", "InvalidShows", "InvalidTariff", "InvalidExchange", "NotAkin", "InvalidStanding",
    "InvalidNumber", "InvalidEvery", "InvalidHistory", "InvalidReports", "InvalidPayments", "InvalidBook",
    "StillNamed", "NoBlock", "NothingToUndo", "InvalidCommand",
)
FIELD_ERRORS = (("Overpaid", "excess"), ("TooLate", "day"), ("InvalidWords", "place"))


class ErrorsTest(unittest.TestCase):
    def test_the_root_is_a_value_error(self):
        self.assertEqual(errors.BillError.__bases__, (ValueError,))

    def test_there_are_28_errors_made_with_one_string(self):
        self.assertEqual(len(set(PLAIN_ERRORS)), 28)
        for name in PLAIN_ERRORS:
            with self.subTest(name):
                error = getattr(errors, name)("some words")
                self.assertIsInstance(error, ValueError)
                self.assertEqual(str(error), "some words")

    def test_all_stand_directly_under_the_root_and_in_this_file(self):
        for name in PLAIN_ERRORS + tuple(name for name, field in FIELD_ERRORS):
            with self.subTest(name):
                self.assertEqual(getattr(errors, name).__bases__, (errors.BillError,))
                self.assertEqual(getattr(errors, name).__module__, "oldestbills.errors")
                self.assertEqual(getattr(errors, name).__subclasses__(), [])

    def test_fields_keep_their_argument(self):
        for name, field in FIELD_ERRORS:
            for value in (0, 1, -7, 10 ** 40):
                with self.subTest(name, value=value):
                    self.assertEqual(getattr(getattr(errors, name)(value), field), value)
                    self.assertEqual(getattr(getattr(errors, name)(**{field: value}), field), value)

    def test_one_error_is_not_caught_as_another_one(self):
        names = PLAIN_ERRORS + tuple(name for name, field in FIELD_ERRORS)
        for name in names:
            for other in names:
                same = issubclass(getattr(errors, name), getattr(errors, other))
                self.assertEqual(same, name == other, (name, other))

    def test_they_can_be_raised_and_caught(self):
        for name in PLAIN_ERRORS:
            with self.assertRaises(errors.BillError):
                raise getattr(errors, name)("why")
        with self.assertRaises(errors.Overpaid) as caught:
            raise errors.Overpaid(10 ** 30)
        self.assertEqual(caught.exception.excess, 10 ** 30)


if __name__ == "__main__":
    unittest.main()
