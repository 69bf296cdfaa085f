"""[20]: standing accounts, against the account of all bills and payments up to a day far enough."""

import unittest

from oldestbills.days import owed
from oldestbills.days import paid_day
from oldestbills.days import waiting
from oldestbills.entries import bills_of
from oldestbills.entries import is_account
from oldestbills.entries import line
from oldestbills.entries import payments_of
from oldestbills.errors import InvalidDay
from oldestbills.errors import InvalidNumber
from oldestbills.errors import InvalidStanding
from oldestbills.layings import laid
from oldestbills.layings import payers
from oldestbills.standing import bill_at
from oldestbills.standing import is_standing
from oldestbills.standing import owed_on
from oldestbills.standing import pair_of
from oldestbills.standing import paid_off
from oldestbills.standing import payers_between
from oldestbills.standing import payment_at
from oldestbills.standing import rise
from oldestbills.standing import until
from oldestbills.standing import waiting_on
from tests.helpers import HUGE_DAY
from tests.helpers import HUGE_SUM
from tests.helpers import OLDEST
from tests.kinds import ODD_STANDINGS
from tests.kinds import STANDING
from tests.kinds import any_standing
from tests.kinds import things_of

BILLS = (("bill", 3, 2, 5), ("bill", -1, 3, 2))
PAYMENTS = (("pay", 0, 4, 7),)
LONG = HUGE_DAY * 10 - 7


def told_until(standing, day):
    """The account of all days up to this one, along the line."""
    rows = [(at, index, word, much) for word in ("bill", "pay") for at, index, much in things_of(standing, word, day + 1)]
    return tuple([(word, at, much) for at, index, word, much in sorted(rows)])


def small_standings(many=60):
    for seed in range(many):
        yield any_standing(seed, seed % 6, everies=(2, 3, 4, 6) if seed % 2 else (1, 4, 5))


class IsStandingTest(unittest.TestCase):
    def test_standing_accounts(self):
        for value in (
            (), STANDING, BILLS, PAYMENTS, (("bill", -400, 400, HUGE_SUM),) * 6, (("pay", HUGE_DAY, HUGE_SUM, 1),),
        ):
            self.assertIs(is_standing(value), True)

    def test_values_that_are_none(self):
        for value in ODD_STANDINGS:
            self.assertIs(is_standing(value), False, value)


class RiseTest(unittest.TestCase):
    def test_by_hand(self):
        self.assertEqual(rise(STANDING), (21, 2))
        self.assertEqual(rise(()), (1, 0))
        self.assertEqual(rise(BILLS), (6, 19))
        self.assertEqual(rise(PAYMENTS), (4, -7))
        self.assertEqual(rise((("bill", -400, 5, 3), ("pay", 400, 5, 3))), (5, 0))
        self.assertEqual(rise((("bill", 0, 16, 1), ("pay", 0, 9, 1), ("bill", 0, 5, 1), ("pay", 0, 7, 1))), (5040, 43))

    def test_f15(self):
        for standing in small_standings():
            period, more = rise(standing)
            turn = max([entry[1] for entry in standing], default=0)
            for day in range(turn, turn + period):
                balances = [owed_on(standing, at) - waiting_on(standing, at) for at in (day, day + period)]
                self.assertEqual(balances[1] - balances[0], more)


class UntilTest(unittest.TestCase):
    def test_the_example(self):
        account = (("bill", 0, 10), ("pay", 2, 4), ("pay", 5, 4), ("bill", 7, 10), ("pay", 8, 4))
        self.assertEqual(until(STANDING, 8), account)
        self.assertEqual(until(STANDING, 7), account[:4])
        self.assertEqual((until(STANDING, -1), until((), 9)), ((), ()))

    def test_along_the_line(self):
        standing = (("pay", 2, 2, 1), ("bill", 0, 1, 2), ("pay", 0, 2, 3))
        self.assertEqual(until(standing, 2), (
            ("bill", 0, 2), ("pay", 0, 3), ("bill", 1, 2), ("pay", 2, 1), ("bill", 2, 2), ("pay", 2, 3)))
        for standing in small_standings():
            for day in range(-6, 13):
                account = until(standing, day)
                self.assertEqual(account, told_until(standing, day))
                self.assertTrue(is_account(account))
                self.assertEqual(line(account), list(range(len(account))))

    def test_far_first_days(self):
        standing = (("bill", -400, 399, 1), ("pay", 400, 400, 2), ("bill", LONG, 1, 3))
        self.assertEqual(until(standing, 400), (("bill", -400, 1), ("bill", -1, 1), ("bill", 398, 1), ("pay", 400, 2)))
        self.assertEqual(until(standing[2:], LONG + 1), (("bill", LONG, 3), ("bill", LONG + 1, 3)))


class DaysTest(unittest.TestCase):
    def test_by_hand(self):
        self.assertEqual([owed_on(STANDING, day) for day in (-1, 0, 1, 2, 5, 7, 8)], [0, 10, 10, 6, 2, 12, 8])
        self.assertEqual([waiting_on(PAYMENTS, day) for day in (-1, 0, 3, 4)], [0, 7, 7, 14])
        self.assertEqual([owed_on(PAYMENTS, day) for day in (-1, 0, 3, 4)], [0, 0, 0, 0])
        self.assertEqual((owed_on((), 3), waiting_on((), 3)), (0, 0))

    def test_against_the_account(self):
        for standing in small_standings():
            account = told_until(standing, 25)
            for day in range(-6, 26):
                self.assertEqual(owed_on(standing, day), owed(account, day))
                self.assertEqual(waiting_on(standing, day), waiting(account, day))

    def test_days_of_40_digits(self):
        for standing in small_standings():
            period, more = rise(standing)
            for day in range(6, 9):
                near = owed_on(standing, day) - waiting_on(standing, day)
                times = LONG // period
                far = owed_on(standing, day + times * period) - waiting_on(standing, day + times * period)
                self.assertEqual(far, near + times * more)
                self.assertEqual((owed_on(standing, day - LONG), waiting_on(standing, day - LONG)), (0, 0))

    def test_wrong_arguments(self):
        for call in (owed_on, waiting_on, until):
            self.assertRaises(InvalidDay, call, STANDING, True)
            self.assertRaises(InvalidStanding, call, [], True)


class NumbersTest(unittest.TestCase):
    def test_the_example(self):
        self.assertEqual(bill_at(STANDING, 14), (0, 98))
        self.assertEqual([pair_of(STANDING, 14, number) for number in range(34, 39)], [0, 4, 4, 2, 0])
        self.assertEqual(payers_between(STANDING, 14), (35, 37))
        self.assertEqual(payment_at(STANDING, 37), (1, 113))
        self.assertEqual(paid_off(STANDING, 14), 113)

    def test_bills_and_payments_of_one_day(self):
        standing = (("pay", 0, 2, 1), ("bill", 0, 1, 2), ("bill", 0, 2, 5), ("pay", 0, 1, 9))
        self.assertEqual([bill_at(standing, number) for number in range(5)], [(1, 0), (2, 0), (1, 1), (1, 2), (2, 2)])
        self.assertEqual([payment_at(standing, number) for number in range(4)], [(0, 0), (3, 0), (3, 1), (0, 2)])
        self.assertEqual([pair_of(standing, 0, number) for number in range(3)], [1, 1, 0])
        self.assertEqual([payers_between(standing, number) for number in range(4)], [(0, 1), (1, 1), (1, 1), (1, 2)])
        self.assertEqual([paid_off(standing, number) for number in range(5)], [0, 0, 1, 2, 2])

    def test_without_bills_or_payments(self):
        for standing in ((), PAYMENTS):
            self.assertIsNone(bill_at(standing, 0))
            self.assertIsNone(payers_between(standing, 0))
            self.assertIsNone(paid_off(standing, 0))
            self.assertEqual(pair_of(standing, 0, 0), 0)
        for standing in ((), BILLS):
            self.assertIsNone(payment_at(standing, 0))
            self.assertIsNone(payers_between(standing, 0))
            self.assertIsNone(paid_off(standing, 0))
            self.assertEqual(pair_of(standing, 0, 0), 0)
        self.assertEqual((bill_at(BILLS, 0), payment_at(PAYMENTS, 2)), ((1, -1), (0, 8)))

    def test_places_against_all_days(self):
        for standing in small_standings():
            for word, call in (("bill", bill_at), ("pay", payment_at)):
                for number, (day, index, _) in enumerate(things_of(standing, word, 20)):
                    self.assertEqual(call(standing, number), (index, day))

    def test_pairs_and_payers_against_the_account(self):
        many = 0
        for standing in small_standings():
            account = told_until(standing, 15)
            bills, payments = bills_of(account), payments_of(account)
            sums = {(bill, payment): much for bill, payment, much in laid(account, OLDEST)}
            for number, bill in enumerate(bills):
                for other, payment in enumerate(payments):
                    self.assertEqual(pair_of(standing, number, other), sums.get((bill, payment), 0))
                day = paid_day(account, OLDEST, bill)
                if day is not None:
                    self.assertEqual(paid_off(standing, number), day)
                    row = [payments.index(payment) for payment, much in payers(account, OLDEST, bill)]
                    self.assertEqual(payers_between(standing, number), (row[0], row[-1]))
                    many += 1
                elif payments:
                    self.assertGreater(paid_off(standing, number), 15)
        self.assertGreater(many, 100)

    def test_numbers_of_40_digits(self):
        for seed in range(40):
            standing = any_standing(seed, 6, most=HUGE_SUM) + (("bill", 0, 3, 5), ("pay", 1, 4, 9))
            period, _ = rise(standing)
            for number in (LONG, LONG + seed, HUGE_SUM, 7):
                first, last = payers_between(standing, number)
                index, day = bill_at(standing, number)
                self.assertEqual((day - standing[index][1]) % standing[index][2], 0)
                ends = sorted({first, min(first + 1, last), max(last - 1, first), last})
                sums = [pair_of(standing, number, other) for other in ends]
                self.assertGreater(min(sums), 0)
                self.assertTrue(sum(sums) == standing[index][3] if last - first < 4 else sum(sums) < standing[index][3])
                beside = [pair_of(standing, number, other) for other in (first - 1, last + 1) if other >= 0]
                self.assertEqual(set(beside), {0})
                self.assertEqual(paid_off(standing, number), max(day, payment_at(standing, last)[1]))
                many = sum([period // entry[2] for entry in standing if entry[0] == "bill"])
                if day > 9:
                    self.assertEqual(bill_at(standing, number + many), (index, day + period))

    def test_wrong_arguments(self):
        for number in (-1, True, False, None, "0", (0,), -HUGE_SUM):
            for call in (bill_at, payment_at, payers_between, paid_off):
                self.assertRaises(InvalidNumber, call, STANDING, number)
                self.assertRaises(InvalidNumber, call, (), number)
            self.assertRaises(InvalidNumber, pair_of, STANDING, number, None)
            self.assertRaises(InvalidNumber, pair_of, STANDING, 0, number)
        for standing in ODD_STANDINGS:
            for call in (bill_at, payment_at, payers_between, paid_off):
                self.assertRaises(InvalidStanding, call, standing, -1)
            self.assertRaises(InvalidStanding, pair_of, standing, -1, -1)
            self.assertRaises(InvalidStanding, rise, standing)


if __name__ == "__main__":
    unittest.main()
