"""[7], [16], F6: rough accounts, against all the accounts that they stand for."""

import unittest

from oldestbills.days import owed
from oldestbills.entries import bills_of
from oldestbills.entries import is_account
from oldestbills.errors import InvalidBill
from oldestbills.errors import InvalidDay
from oldestbills.errors import InvalidPayment
from oldestbills.errors import InvalidRough
from oldestbills.errors import InvalidSum
from oldestbills.layings import laid
from oldestbills.layings import opens
from oldestbills.roughs import is_rough
from oldestbills.roughs import open_range
from oldestbills.roughs import owed_range
from oldestbills.roughs import pair_range
from oldestbills.roughs import possible_pairs
from oldestbills.roughs import sharper
from oldestbills.roughs import sure_pairs
from oldestbills.roughs import with_pair
from tests.helpers import HUGE_DAY
from tests.helpers import HUGE_SUM
from tests.helpers import Numbers
from tests.helpers import OLDEST
from tests.samples import ODD_ROUGHS
from tests.samples import ROUGH
from tests.samples import all_accounts
from tests.samples import any_rough
from tests.samples import older

DAYS = range(-2, 4)


def pairs_of(rough):
    many = range(len(rough))
    return [(b, p) for b in many for p in many if rough[b][0] == "bill" and rough[p][0] == "pay"]


def sums_in(account):
    """The sums of all pairs, 0 for the others."""
    sums = {pair: 0 for pair in pairs_of(account)}
    sums.update({(bill, payment): much for bill, payment, much in laid(account, OLDEST)})
    return sums


def small_roughs():
    """Small rough accounts: the days, the sums and the bounds of unlike widths."""
    for seed in range(90):
        yield any_rough(seed, seed % 6, days=1 + seed % 4, most=1 + seed % 5, wide=1 + seed % 4)


def stands_for(rough, account):
    return is_account(account) and len(account) == len(rough) and all([
        entry[:2] == bounds[:2] and bounds[2] <= entry[2] <= bounds[3] for entry, bounds in zip(account, rough)
    ])


class IsRoughTest(unittest.TestCase):
    def test_rough_accounts(self):
        for value in (
            (), ROUGH, (("bill", -5, 1, 1),), (("pay", 0, 7, 7),), (("pay", HUGE_DAY, HUGE_SUM, HUGE_SUM + 1),),
            (("bill", 1, 1, 10 ** 40),) * 40,
        ):
            self.assertIs(is_rough(value), True, value)

    def test_values_that_are_none(self):
        for value in ODD_ROUGHS:
            self.assertIs(is_rough(value), value == (), value)


class RangesTest(unittest.TestCase):
    def test_the_example_of_9(self):
        self.assertEqual(pair_range(ROUGH, 1, 2), (0, 3))
        self.assertEqual(pair_range(ROUGH, 0, 2), (5, 8))
        self.assertEqual(sure_pairs(ROUGH), [(0, 2)])
        self.assertEqual(possible_pairs(ROUGH), [(0, 2), (1, 2)])
        self.assertEqual([open_range(ROUGH, bill) for bill in (0, 1)], [(0, 4), (2, 10)])
        self.assertEqual([owed_range(ROUGH, day) for day in (0, 1, 2, 3)], [(0, 0), (5, 10), (10, 20), (2, 14)])

    def test_the_empty_one_and_one_sided_ones(self):
        self.assertEqual((sure_pairs(()), possible_pairs(()), owed_range((), 3)), ([], [], (0, 0)))
        bills = (("bill", 2, 1, 4), ("bill", 1, 2, 3))
        self.assertEqual((sure_pairs(bills), possible_pairs(bills), owed_range(bills, 1)), ([], [], (2, 3)))
        self.assertEqual([open_range(bills, bill) for bill in (0, 1)], [(1, 4), (2, 3)])
        payments = (("pay", 2, 1, 4), ("pay", 1, 2, 3))
        self.assertEqual((sure_pairs(payments), possible_pairs(payments), owed_range(payments, 2)), ([], [], (0, 0)))

    def test_sums_that_are_known(self):
        rough = (("bill", 1, 10, 10), ("bill", 3, 10, 10), ("pay", 4, 15, 15), ("pay", 2, 4, 4))
        self.assertEqual([pair_range(rough, b, p) for b in (0, 1) for p in (2, 3)], [(6, 6), (4, 4), (9, 9), (0, 0)])
        self.assertEqual([open_range(rough, bill) for bill in (0, 1)], [(0, 0), (1, 1)])

    def test_f6_against_all_accounts(self):
        for rough in small_roughs():
            accounts = list(all_accounts(rough))
            sums = [sums_in(account) for account in accounts]
            for bill, payment in pairs_of(rough):
                found = sorted({row[(bill, payment)] for row in sums})
                self.assertEqual(pair_range(rough, bill, payment), (found[0], found[-1]))
                self.assertEqual(found, list(range(found[0], found[-1] + 1)))
            self.assertEqual(sure_pairs(rough), [pair for pair in pairs_of(rough) if min([row[pair] for row in sums])])
            self.assertEqual(possible_pairs(rough), [pair for pair in pairs_of(rough) if max([row[pair] for row in sums])])

    def test_open_and_owed_against_all_accounts(self):
        for rough in small_roughs():
            accounts = list(all_accounts(rough))
            rows = [dict(zip(bills_of(account), opens(account, OLDEST))) for account in accounts]
            for bill in rows[0]:
                found = [row[bill] for row in rows]
                self.assertEqual(open_range(rough, bill), (min(found), max(found)))
            for day in DAYS:
                found = [owed(account, day) for account in accounts]
                self.assertEqual(owed_range(rough, day), (min(found), max(found)))

    def test_many_entries_of_one_day(self):
        rough = (("pay", 1, 1, 5), ("bill", 1, 2, 2), ("pay", 1, 3, 4), ("bill", 1, 1, 9))
        self.assertEqual(pair_range(rough, 1, 0), (1, 2))
        self.assertEqual(pair_range(rough, 3, 2), (0, 4))
        self.assertEqual(pair_range(rough, 1, 2), (0, 1))

    def test_wrong_arguments(self):
        for call in (sure_pairs, possible_pairs):
            for rough in ODD_ROUGHS:
                if rough != ():
                    self.assertRaises(InvalidRough, call, rough)
        for bill in (2, 3, -1, True, None, "0", (0,)):
            self.assertRaises(InvalidBill, open_range, ROUGH, bill)
            self.assertRaises(InvalidBill, pair_range, ROUGH, bill, None)
        for payment in (0, 3, -1, True, None):
            self.assertRaises(InvalidPayment, pair_range, ROUGH, 0, payment)
        self.assertRaises(InvalidRough, pair_range, [], None, None)
        self.assertRaises(InvalidDay, owed_range, ROUGH, True)
        self.assertRaises(InvalidRough, owed_range, None, True)


class WithPairTest(unittest.TestCase):
    def check(self, rough, bill, payment, much):
        account = with_pair(rough, bill, payment, much)
        self.assertTrue(stands_for(rough, account), (rough, account))
        self.assertEqual(sums_in(account)[(bill, payment)], much)

    def test_the_example(self):
        for much in range(4):
            self.check(ROUGH, 1, 2, much)
        for much in range(5, 9):
            self.check(ROUGH, 0, 2, much)
        for much in (4, 9, 10 ** 30):
            self.assertIsNone(with_pair(ROUGH, 1, 2, much))
        for much in (0, 4, 9):
            self.assertIsNone(with_pair(ROUGH, 0, 2, much))

    def test_each_sum_of_small_rough_accounts(self):
        for rough in small_roughs():
            for bill, payment in pairs_of(rough):
                least, greatest = pair_range(rough, bill, payment)
                for much in range(greatest + 3):
                    if least <= much <= greatest:
                        self.check(rough, bill, payment, much)
                    else:
                        self.assertIsNone(with_pair(rough, bill, payment, much))

    def test_at_the_limits_of_use(self):
        for seed in range(12):
            rough = any_rough(seed, 40, days=30, most=HUGE_SUM, wide=HUGE_SUM // (1 + seed))
            numbers = Numbers(seed)
            for bill, payment in pairs_of(rough)[::29]:
                least, greatest = pair_range(rough, bill, payment)
                between = least + numbers.below(greatest - least + 1)
                for much in (least, least + 1, between, greatest - 1, greatest):
                    if least <= much <= greatest:
                        self.check(rough, bill, payment, much)
                self.assertIsNone(with_pair(rough, bill, payment, greatest + 1))

    def test_wrong_arguments(self):
        for much in (-1, True, False, None, "1", (1,), -HUGE_SUM):
            self.assertRaises(InvalidSum, with_pair, ROUGH, 0, 2, much)
        self.assertRaises(InvalidPayment, with_pair, ROUGH, 0, 0, -1)
        self.assertRaises(InvalidBill, with_pair, ROUGH, 2, 0, -1)
        self.assertRaises(InvalidRough, with_pair, list(ROUGH), 2, 0, -1)


class SharperTest(unittest.TestCase):
    def test_the_example(self):
        self.assertEqual(sharper(ROUGH, 1, 2, 3), [(5, 5), (5, 10), (8, 8)])
        self.assertEqual(sharper(ROUGH, 1, 2, 1), [(5, 7), (5, 10), (6, 8)])
        self.assertEqual(sharper(ROUGH, 0, 2, 8), [(8, 10), (5, 10), (8, 8)])
        self.assertEqual(sharper(ROUGH, 0, 2, 5), [(5, 5), (5, 10), (6, 8)])
        self.assertIsNone(sharper(ROUGH, 1, 2, 4))
        self.assertIsNone(sharper(ROUGH, 0, 2, 4))

    def test_against_all_accounts(self):
        for rough in small_roughs():
            accounts = list(all_accounts(rough))
            sums = [sums_in(account) for account in accounts]
            for bill, payment in pairs_of(rough):
                for much in range(1, max(entry[3] for entry in rough) + 2):
                    found = [account for account, row in zip(accounts, sums) if row[(bill, payment)] == much]
                    told = None
                    if found:
                        columns = [[entry[2] for entry in entries] for entries in zip(*found)]
                        told = [(min(column), max(column)) for column in columns]
                    self.assertEqual(sharper(rough, bill, payment, much), told, (rough, bill, payment, much))

    def test_two_ways_about(self):
        # The older bill is so small that the gap is 3, or so great that it is -3: nothing between.
        rough = (("bill", 1, 1, 9), ("bill", 2, 5, 5), ("pay", 1, 4, 4), ("pay", 2, 5, 5))
        found = [account[0][2] for account in all_accounts(rough) if sums_in(account)[(1, 3)] == 2]
        self.assertEqual(found, [1, 7])
        self.assertEqual(sharper(rough, 1, 3, 2), [(1, 7), (5, 5), (4, 4), (5, 5)])
        self.assertEqual(sharper(rough, 1, 3, 1), [(8, 8), (5, 5), (4, 4), (5, 5)])

    def test_at_the_limits_of_use(self):
        for seed in range(12):
            rough = any_rough(seed, 40, days=30, most=HUGE_SUM, wide=HUGE_SUM // (1 + seed))
            numbers = Numbers(seed)
            for bill, payment in pairs_of(rough)[::41]:
                least, greatest = pair_range(rough, bill, payment)
                much = max(1, least + numbers.below(greatest - least + 1))
                if much <= greatest:
                    self.check_bounds(rough, bill, payment, much)
                self.assertIsNone(sharper(rough, bill, payment, greatest + 1))

    def check_bounds(self, rough, bill, payment, much):
        """Each bound can be with the pair's sum; what lies behind it can not."""
        for index, (least, greatest) in enumerate(sharper(rough, bill, payment, much)):
            word, day, low, high = rough[index]
            self.assertTrue(low <= least <= greatest <= high)
            for at in (least, greatest):
                known = rough[:index] + ((word, day, at, at),) + rough[index + 1:]
                self.assertIsNotNone(with_pair(known, bill, payment, much))
            for begin, end in ((low, least - 1), (greatest + 1, high)):
                if begin <= end:
                    beyond = rough[:index] + ((word, day, begin, end),) + rough[index + 1:]
                    self.assertIsNone(with_pair(beyond, bill, payment, much))

    def test_others_than_the_older_ones_stay(self):
        rough = ROUGH + (("bill", 3, 1, 9), ("pay", 4, 1, 9), ("bill", 0, 1, 1))
        rows = sharper(rough, 0, 2, 5)
        self.assertEqual(rows[3:], [(1, 9), (1, 9), (1, 1)])
        self.assertTrue(all(older(rough, 5, index) for index in range(5)))

    def test_wrong_arguments(self):
        for much in (0, -1, True, None, "1", (1,)):
            self.assertRaises(InvalidSum, sharper, ROUGH, 0, 2, much)
        self.assertRaises(InvalidPayment, sharper, ROUGH, 0, 0, 0)
        self.assertRaises(InvalidBill, sharper, ROUGH, 2, 0, 0)
        self.assertRaises(InvalidRough, sharper, None, 2, 0, 0)


if __name__ == "__main__":
    unittest.main()
