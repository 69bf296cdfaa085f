"""[3], [11]: accounts, manners, the line, and the accounts that come from them."""

import unittest

from oldestbills.entries import as_of
from oldestbills.entries import bills_of
from oldestbills.entries import changed
from oldestbills.entries import is_account
from oldestbills.entries import is_manner
from oldestbills.entries import joined
from oldestbills.entries import line
from oldestbills.entries import payments_of
from oldestbills.entries import struck
from oldestbills.errors import InvalidAccount
from oldestbills.errors import InvalidDay
from oldestbills.errors import InvalidIndex
from oldestbills.errors import InvalidSum
from oldestbills.errors import StillNamed
from tests.helpers import EXAMPLE
from tests.helpers import HUGE_DAY
from tests.helpers import HUGE_SUM
from tests.helpers import MANNERS
from tests.helpers import MIXED
from tests.helpers import ODD_ACCOUNTS
from tests.helpers import ODD_MANNERS
from tests.helpers import any_account

STRUCK = ("struck",)
# The bill is entered behind the payment that names it, and ahead of another one.
NAMED = (("named", 5, 3, 1), ("bill", 4, 10), ("named", 8, 2, 1), ("pay", 1, 1), STRUCK)


class KindsTest(unittest.TestCase):
    def test_accounts(self):
        for value in (
            (), (STRUCK,), (STRUCK, STRUCK), EXAMPLE, MIXED, NAMED, (("bill", -5, 1),), (("pay", 0, HUGE_SUM),),
            (("bill", HUGE_DAY, 10 ** 31),), (("bill", 3, 1), ("named", 3, 1, 0)), (("named", 3, 1, 1), ("bill", 3, 1)),
            tuple([("bill", -HUGE_DAY, 1)] * 60),
        ):
            self.assertIs(is_account(value), True, value)

    def test_no_accounts(self):
        for value in ODD_ACCOUNTS:
            self.assertIs(is_account(value), False, value)

    def test_manners(self):
        self.assertEqual(len(set(MANNERS)), 8)
        for manner in MANNERS:
            self.assertIs(is_manner(manner), True, manner)

    def test_no_manners(self):
        for value in ODD_MANNERS:
            self.assertIs(is_manner(value), False, value)


class LineTest(unittest.TestCase):
    def test_by_days_then_by_indexes_without_struck_ones(self):
        self.assertEqual(line(EXAMPLE), [0, 3, 1, 2])
        self.assertEqual(line(MIXED), [0, 4, 5, 1, 3, 6])
        self.assertEqual(bills_of(MIXED), [0, 4, 6])
        self.assertEqual(payments_of(MIXED), [5, 1, 3])
        self.assertEqual(bills_of(EXAMPLE), [0, 1])
        self.assertEqual(payments_of(EXAMPLE), [3, 2])

    def test_the_empty_account_and_struck_entries_alone(self):
        for account in ((), (STRUCK,), (STRUCK, STRUCK)):
            self.assertEqual((line(account), bills_of(account), payments_of(account)), ([], [], []))

    def test_many_entries_of_one_day(self):
        account = (("pay", 7, 1), ("bill", 7, 2), ("named", 7, 3, 1), ("bill", 7, 4), ("pay", 7, 9))
        self.assertEqual(line(account), [0, 1, 2, 3, 4])
        self.assertEqual(bills_of(account), [1, 3])
        self.assertEqual(payments_of(account), [0, 2, 4])

    def test_days_below_0_and_days_of_40_digits(self):
        account = (("bill", HUGE_DAY, 1), ("pay", -1, 5), ("bill", -HUGE_DAY, 1), ("pay", HUGE_DAY - 1, 1))
        self.assertEqual(line(account), [2, 1, 3, 0])

    def test_sums_do_not_count_on_the_line(self):
        self.assertEqual(line((("bill", 1, 9), ("bill", 1, 1), ("pay", 1, 5))), [0, 1, 2])

    def test_against_the_definition(self):
        for seed in range(60):
            account = any_account(seed, seed % 20)
            alive = [index for index, entry in enumerate(account) if entry != STRUCK]
            expected = sorted(alive, key=lambda index: (account[index][1], index))
            self.assertEqual(line(account), expected)
            self.assertEqual(bills_of(account), [k for k in expected if account[k][0] == "bill"])
            self.assertEqual(payments_of(account), [k for k in expected if account[k][0] in ("pay", "named")])


class AsOfTest(unittest.TestCase):
    def test_greater_days_are_struck(self):
        self.assertEqual(as_of(EXAMPLE, 3), (("bill", 1, 10), ("bill", 3, 10), STRUCK, ("pay", 2, 4)))
        self.assertEqual(as_of(EXAMPLE, 4), EXAMPLE)
        self.assertEqual(as_of(EXAMPLE, 0), (STRUCK,) * 4)
        self.assertEqual(as_of(EXAMPLE, HUGE_DAY), EXAMPLE)
        self.assertEqual(as_of(EXAMPLE, -HUGE_DAY), (STRUCK,) * 4)
        self.assertEqual(as_of((), 5), ())

    def test_named_payments_and_struck_entries(self):
        self.assertEqual(as_of(NAMED, 7), (("named", 5, 3, 1), ("bill", 4, 10), STRUCK, ("pay", 1, 1), STRUCK))
        self.assertEqual(as_of(NAMED, 3), (STRUCK, STRUCK, STRUCK, ("pay", 1, 1), STRUCK))

    def test_what_comes_is_an_account(self):
        for seed in range(40):
            account = any_account(seed, 12)
            for day in range(-5, 6):
                past = as_of(account, day)
                self.assertTrue(is_account(past))
                kept = [entry != STRUCK and entry[1] <= day for entry in account]
                self.assertEqual(past, tuple([e if keep else STRUCK for e, keep in zip(account, kept)]))


class StruckTest(unittest.TestCase):
    def test_one_entry_is_struck(self):
        self.assertEqual(struck(EXAMPLE, 1), (("bill", 1, 10), STRUCK, ("pay", 4, 15), ("pay", 2, 4)))
        self.assertEqual(struck(NAMED, 0), (STRUCK,) + NAMED[1:])
        self.assertEqual(struck(NAMED, 3), NAMED[:3] + (STRUCK, STRUCK))
        self.assertEqual(struck(MIXED, 6), MIXED[:6] + (STRUCK,))

    def test_a_named_bill_cannot_be_struck(self):
        self.assertRaises(StillNamed, struck, NAMED, 1)
        self.assertRaises(StillNamed, struck, struck(NAMED, 0), 1)
        self.assertRaises(StillNamed, struck, struck(NAMED, 2), 1)
        self.assertEqual(struck(struck(struck(NAMED, 0), 2), 1)[:3], (STRUCK,) * 3)

    def test_the_index_of_a_struck_entry_and_none_at_all(self):
        for account, index in ((NAMED, 4), (NAMED, 5), (NAMED, -1), (NAMED, True), (NAMED, "1"), ((), 0)):
            self.assertRaises(InvalidIndex, struck, account, index)


class ChangedTest(unittest.TestCase):
    def test_another_day_and_another_sum(self):
        self.assertEqual(changed(EXAMPLE, 0, 9, 8), (("bill", 9, 8),) + EXAMPLE[1:])
        self.assertEqual(changed(EXAMPLE, 3, -2, HUGE_SUM), EXAMPLE[:3] + (("pay", -2, HUGE_SUM),))
        self.assertEqual(changed(NAMED, 0, 4, 1), (("named", 4, 1, 1),) + NAMED[1:])
        self.assertEqual(changed(NAMED, 1, 5, 6), (NAMED[0], ("bill", 5, 6)) + NAMED[2:])
        self.assertEqual(changed(NAMED, 1, -7, 6), (NAMED[0], ("bill", -7, 6)) + NAMED[2:])
        self.assertEqual(changed(EXAMPLE, 1, 3, 10), EXAMPLE)

    def test_a_payment_stays_behind_the_bill_that_it_names(self):
        self.assertRaises(InvalidDay, changed, NAMED, 0, 3, 1)
        self.assertRaises(InvalidDay, changed, NAMED, 2, -9, 2)

    def test_a_bill_stays_ahead_of_the_payments_that_name_it(self):
        self.assertRaises(StillNamed, changed, NAMED, 1, 6, 6)
        self.assertRaises(StillNamed, changed, NAMED, 1, 9, 6)
        self.assertEqual(changed(struck(NAMED, 0), 1, 8, 6)[1], ("bill", 8, 6))
        self.assertRaises(StillNamed, changed, struck(NAMED, 0), 1, 9, 6)

    def test_what_hangs_on_two_parameters_comes_behind_the_sum(self):
        self.assertRaises(InvalidSum, changed, NAMED, 0, 3, 0)
        self.assertRaises(InvalidSum, changed, NAMED, 1, 9, True)
        self.assertRaises(InvalidDay, changed, NAMED, 0, True, 0)
        self.assertRaises(InvalidIndex, changed, NAMED, 4, None, 0)

    def test_what_comes_is_an_account_or_raises(self):
        for seed in range(40):
            account = any_account(seed, 9)
            for index in line(account):
                for day in range(-5, 6):
                    row = (account[index][0], day, 3) + account[index][3:]
                    expected = account[:index] + (row,) + account[index + 1:]
                    if is_account(expected):
                        self.assertEqual(changed(account, index, day, 3), expected)
                    else:
                        error = StillNamed if row[0] == "bill" else InvalidDay
                        self.assertRaises(error, changed, account, index, day, 3)


class JoinedTest(unittest.TestCase):
    def test_names_are_raised(self):
        self.assertEqual(joined(EXAMPLE, NAMED), EXAMPLE + (
            ("named", 5, 3, 5), ("bill", 4, 10), ("named", 8, 2, 5), ("pay", 1, 1), STRUCK))
        self.assertEqual(joined(NAMED, EXAMPLE), NAMED + EXAMPLE)
        self.assertEqual(joined((STRUCK,), NAMED)[1:3], (("named", 5, 3, 2), ("bill", 4, 10)))

    def test_with_the_empty_account(self):
        self.assertEqual(joined((), ()), ())
        self.assertEqual(joined(NAMED, ()), NAMED)
        self.assertEqual(joined((), NAMED), NAMED)

    def test_each_named_payment_names_the_same_bill(self):
        for seed in range(40):
            one, two = any_account(seed, 7), any_account(seed + 1000, 9)
            both = joined(one, two)
            self.assertTrue(is_account(both))
            self.assertEqual(both[:7], one)
            for entry, before in zip(both[7:], two):
                self.assertEqual(entry[:3], before[:3])
                if before[0] == "named":
                    self.assertEqual(both[entry[3]], two[before[3]])

    def test_either_one_wrong(self):
        self.assertRaises(InvalidAccount, joined, [], ())
        self.assertRaises(InvalidAccount, joined, (), [])


if __name__ == "__main__":
    unittest.main()
