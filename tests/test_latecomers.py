"""[18], F3, F9, F10: late entries, against all late entries of small sums."""

import itertools
import unittest

from oldestbills.entries import bills_of
from oldestbills.entries import is_account
from oldestbills.entries import payments_of
from oldestbills.errors import InvalidAccount
from oldestbills.errors import InvalidBill
from oldestbills.errors import InvalidDay
from oldestbills.errors import InvalidEntry
from oldestbills.errors import InvalidManner
from oldestbills.errors import InvalidPayment
from oldestbills.errors import InvalidSum
from oldestbills.latecomers import firm
from oldestbills.latecomers import fixed_pairs
from oldestbills.latecomers import late_for
from oldestbills.latecomers import late_open_range
from oldestbills.latecomers import late_range
from oldestbills.latecomers import moved_by
from oldestbills.layings import laid
from oldestbills.layings import moved
from oldestbills.layings import opens
from tests.helpers import EXAMPLE
from tests.helpers import HUGE_DAY
from tests.helpers import HUGE_SUM
from tests.helpers import MANNERS
from tests.helpers import MIXED
from tests.helpers import NAMEABLE
from tests.helpers import ODD_ENTRIES
from tests.helpers import ODD_NAMES
from tests.helpers import OLDEST
from tests.helpers import any_account
from tests.helpers import plain_account
from tests.samples import older

# The days of the small accounts are -1 and 0, or -1 to 1: late entries stand ahead of, on and behind all of them.
DAYS = range(-2, 3)
UNITS = [(word, day, 1) for word in ("bill", "pay") for day in DAYS]


def units(word, most):
    """All late entries of one word of at most so much in all: an entry is as good as its sum in units of its day."""
    rows = [unit for unit in UNITS if unit[0] == word]
    return [late for many in range(most + 1) for late in itertools.combinations_with_replacement(rows, many)]


def sums_in(account, plain):
    """The sums of all pairs of plain in the account, 0 for the others."""
    sums = {(bill, payment): 0 for bill in bills_of(plain) for payment in payments_of(plain)}
    sums.update({(bill, payment): much for bill, payment, much in laid(account, OLDEST) if (bill, payment) in sums})
    return sums


def opens_in(account):
    return dict(zip(bills_of(account), opens(account, OLDEST)))


def gap_of(plain, bill, payment):
    """D of F9."""
    paid = sum([plain[other][2] for other in payments_of(plain) if older(plain, other, payment)])
    return paid - sum([plain[other][2] for other in bills_of(plain) if older(plain, other, bill)])


def small_accounts(many=30):
    for seed in range(many):
        yield plain_account(seed, 2 + seed % 4, days=2 + seed % 2, most=1 + seed % 4)


class RangeTest(unittest.TestCase):
    def test_the_examples(self):
        self.assertEqual(late_range(EXAMPLE, 1, 2, 3, 2), (7, 10))
        self.assertEqual(late_range(EXAMPLE, 1, 2, 0, 0), (9, 9))
        self.assertEqual(late_range(EXAMPLE, 1, 2, 0, 9), (0, 9))
        self.assertEqual(late_range(EXAMPLE, 1, 2, 0, 8), (1, 9))
        self.assertEqual(late_range(EXAMPLE, 0, 3, HUGE_SUM, HUGE_SUM), (0, 4))

    def test_against_all_late_entries(self):
        found_more = 0
        for plain in small_accounts():
            for paid, billed in ((0, 0), (0, 2), (2, 0), (1, 2), (2, 2)):
                late = [plain + one + two for one in units("pay", paid) for two in units("bill", billed)]
                rows = [sums_in(account, plain) for account in late]
                left = [opens_in(account) for account in late]
                for bill, payment in rows[0]:
                    found = sorted({row[(bill, payment)] for row in rows})
                    self.assertEqual(late_range(plain, bill, payment, paid, billed), (found[0], found[-1]))
                    self.assertEqual(found, list(range(found[0], found[-1] + 1)))
                    found_more += len(found) > 2
                for bill in bills_of(plain):
                    found = [row[bill] for row in left]
                    self.assertEqual(late_open_range(plain, bill, paid, billed), (min(found), max(found)))
        self.assertGreater(found_more, 50)

    def test_entries_of_the_same_day_are_ahead_of_late_ones(self):
        plain = (("bill", 1, 2), ("pay", 1, 2))
        self.assertEqual(laid(plain + (("bill", 1, 1),), OLDEST), [(0, 1, 2)])
        self.assertEqual(late_range(plain, 0, 1, 0, 1), (1, 2))
        self.assertEqual(late_open_range(plain, 0, 0, 1), (0, 1))

    def test_without_payments_and_at_the_limits_of_use(self):
        self.assertEqual(late_open_range((("struck",), ("bill", 1, 5)), 1, 3, 9), (2, 5))
        self.assertEqual(late_open_range((("bill", 1, 5), ("pay", 0, 9)), 0, 0, 6), (0, 2))
        for seed in range(6):
            plain = plain_account(seed, 40, days=2000000, most=HUGE_SUM)
            for bill in bills_of(plain):
                for payment in payments_of(plain):
                    least, greatest = late_range(plain, bill, payment, HUGE_SUM, HUGE_SUM)
                    sums = sums_in(plain, plain)
                    self.assertTrue(least <= sums[(bill, payment)] <= greatest)
                least, greatest = late_open_range(plain, bill, 1, 1)
                self.assertTrue(least <= opens_in(plain)[bill] <= greatest <= plain[bill][2])

    def test_wrong_arguments(self):
        for much in (-1, True, False, None, "1", (1,), -HUGE_SUM):
            self.assertRaises(InvalidSum, late_range, EXAMPLE, 0, 2, much, 0)
            self.assertRaises(InvalidSum, late_range, EXAMPLE, 0, 2, 0, much)
            self.assertRaises(InvalidSum, late_open_range, EXAMPLE, 0, much, 0)
            self.assertRaises(InvalidSum, late_open_range, EXAMPLE, 0, 0, much)
        self.assertRaises(InvalidPayment, late_range, EXAMPLE, 0, 1, -1, -1)
        self.assertRaises(InvalidBill, late_range, EXAMPLE, 2, 1, -1, -1)
        self.assertRaises(InvalidBill, late_open_range, EXAMPLE, 2, -1, -1)
        self.assertRaises(InvalidAccount, late_range, MIXED, 2, 1, -1, -1)
        self.assertRaises(InvalidAccount, late_open_range, MIXED, 2, -1, -1)


class FirmTest(unittest.TestCase):
    def test_the_example(self):
        self.assertEqual(firm(EXAMPLE, 1, 2), 8)
        self.assertEqual(sums_in(EXAMPLE + (("bill", 2, 9),), EXAMPLE)[(1, 2)], 0)
        self.assertIsNone(firm(EXAMPLE, 1, 3))
        self.assertEqual(firm((("bill", 1, 1), ("pay", 1, 1)), 0, 1), 0)

    def test_against_all_late_entries(self):
        most = 3
        late = {many: list(itertools.combinations_with_replacement(UNITS, many)) for many in range(most + 1)}
        told = set()
        for plain in small_accounts():
            sure = {pair: -1 for pair in sums_in(plain, plain)}
            for many in range(most + 1):
                rows = [sums_in(plain + entries, plain) for entries in late[many]]
                for pair in sure:
                    if sure[pair] == many - 1 and all([row[pair] >= 1 for row in rows]):
                        sure[pair] = many
            for pair in sure:
                found = firm(plain, *pair)
                self.assertEqual(None if sure[pair] < 0 else sure[pair], found if found is None else min(most, found))
                told.add(found)
        self.assertLessEqual({None, 0, 1, 2}, told)

    def test_at_the_limits_of_use_one_more_is_too_much(self):
        for seed in range(6):
            plain = plain_account(seed, 40, days=2000000, most=HUGE_SUM)
            for bill, payment, _ in laid(plain, OLDEST):
                much = firm(plain, bill, payment)
                least = [late_range(plain, bill, payment, *late)[0] for late in ((much, 0), (0, much))]
                self.assertGreaterEqual(min(least), 1)
                least = [late_range(plain, bill, payment, *late)[0] for late in ((much + 1, 0), (0, much + 1))]
                self.assertEqual(min(least), 0)

    def test_wrong_arguments(self):
        self.assertRaises(InvalidPayment, firm, EXAMPLE, 0, 1)
        self.assertRaises(InvalidBill, firm, EXAMPLE, 2, 1)
        self.assertRaises(InvalidAccount, firm, MIXED, 2, 1)


class LateForTest(unittest.TestCase):
    def check(self, plain, bill, payment, much):
        late = late_for(plain, bill, payment, much)
        self.assertIs(type(late), tuple)
        self.assertTrue(is_account(late))
        self.assertEqual([entry for entry in late if entry[0] not in ("bill", "pay")], [])
        self.assertEqual(sums_in(plain + late, plain)[(bill, payment)], much)
        return sum([entry[2] for entry in late])

    def test_the_example(self):
        self.assertEqual(late_for(EXAMPLE, 1, 2, 9), ())
        for much, total in ((10, 1), (8, 1), (1, 8), (0, 9)):
            self.assertEqual(self.check(EXAMPLE, 1, 2, much), total)
        self.assertIsNone(late_for(EXAMPLE, 1, 2, 11))
        self.assertIsNone(late_for(EXAMPLE, 0, 3, 5))
        self.assertEqual(late_for(EXAMPLE, 1, 3, 0), ())

    def test_each_sum_of_small_accounts_with_the_least_late_entries(self):
        late = {many: list(itertools.combinations_with_replacement(UNITS, many)) for many in range(4)}
        for plain in small_accounts():
            least = {}
            for many in sorted(late):
                for entries in late[many]:
                    for pair, much in sums_in(plain + entries, plain).items():
                        least.setdefault((pair, much), many)
            for bill, payment in sums_in(plain, plain):
                highest = min(plain[bill][2], plain[payment][2])
                for much in range(highest + 1):
                    total = self.check(plain, bill, payment, much)
                    self.assertEqual(min(4, total), least.get(((bill, payment), much), 4))
                for much in (highest + 1, highest + 2, HUGE_SUM):
                    self.assertIsNone(late_for(plain, bill, payment, much))

    def test_at_the_limits_of_use_with_the_least_sum(self):
        for seed in range(8):
            plain = plain_account(seed, 40, days=2000000, most=HUGE_SUM)
            for bill, payment in sorted(sums_in(plain, plain))[::29]:
                highest = min(plain[bill][2], plain[payment][2])
                for much in (0, 1, highest // 3, highest - 1, highest):
                    total = self.check(plain, bill, payment, much)
                    for paid, billed in ((total - 1, 0), (0, total - 1)) if total else ():
                        low, high = late_range(plain, bill, payment, paid, billed)
                        self.assertFalse(low <= much <= high)

    def test_wrong_arguments(self):
        for much in (-1, True, None, "0", (0,), -HUGE_SUM):
            self.assertRaises(InvalidSum, late_for, EXAMPLE, 0, 2, much)
        self.assertRaises(InvalidPayment, late_for, EXAMPLE, 0, 1, -1)
        self.assertRaises(InvalidBill, late_for, EXAMPLE, 2, 1, -1)
        self.assertRaises(InvalidAccount, late_for, MIXED, 2, 1, -1)


class FixedPairsTest(unittest.TestCase):
    def test_the_example(self):
        self.assertEqual(fixed_pairs(EXAMPLE, 3), [(0, 3, 4)])
        self.assertEqual(fixed_pairs(EXAMPLE, 2), [(0, 3, 4)])
        self.assertEqual(fixed_pairs(EXAMPLE, 1), [])
        self.assertEqual(fixed_pairs(EXAMPLE, 4), laid(EXAMPLE, OLDEST))
        self.assertEqual(fixed_pairs((), 4), [])
        self.assertEqual(fixed_pairs(EXAMPLE, HUGE_DAY), laid(EXAMPLE, OLDEST))
        self.assertEqual(fixed_pairs(EXAMPLE, -HUGE_DAY), [])

    def test_against_late_entries_of_many_days_and_sums(self):
        found = set()
        for plain in small_accounts(60):
            total = sum([entry[2] for entry in plain if entry[0] != "struck"])
            for day in DAYS:
                days = [at for at in DAYS if at >= day] + [9]
                single = [((word, at, much),) for word in ("bill", "pay") for at in days for much in (1, 2, total + 1)]
                late = single + [one + two for one in single[::2] for two in single[1::3]]
                rows = [laid(plain + entries, OLDEST) for entries in late]
                kept = [row for row in laid(plain, OLDEST) if all([row in laying for laying in rows])]
                self.assertEqual(fixed_pairs(plain, day), kept)
                found.add(len(kept))
        self.assertLessEqual({0, 1, 2}, found)

    def test_wrong_arguments(self):
        self.assertRaises(InvalidDay, fixed_pairs, EXAMPLE, True)
        self.assertRaises(InvalidAccount, fixed_pairs, MIXED, True)


class MovedByTest(unittest.TestCase):
    def test_one_entry_behind_the_others(self):
        self.assertEqual(moved_by(EXAMPLE, OLDEST, ("pay", 1, 2)), [(0, 2, 6, 4), (0, 4, 0, 2), (1, 2, 9, 10)])
        self.assertEqual(moved_by(EXAMPLE, OLDEST, ("struck",)), [])
        self.assertEqual(moved_by((), OLDEST, ("bill", 1, 1)), [])
        self.assertEqual(moved_by(EXAMPLE, ("entered", "oldest"), ("bill", 1, 2)), [])
        self.assertEqual(moved_by(EXAMPLE, OLDEST, ("named", 3, 6, 1)), [(1, 2, 9, 4), (1, 4, 0, 6)])

    def test_as_moved_tells_for_any_manner(self):
        for seed in range(40):
            account = any_account(seed, seed % 12)
            bills = [index for index, entry in enumerate(account) if entry[0] == "bill"]
            late = [("bill", 0, 3), ("pay", -1, 4), ("struck",), ("bill", -9, 20)]
            late += [("named", account[bill][1] + seed % 2, 3, bill) for bill in bills]
            for manner in MANNERS:
                for entry in late:
                    self.assertEqual(moved_by(account, manner, entry), moved(account, account + (entry,), manner))

    def test_values_that_are_no_entry_there(self):
        for entry in ODD_ENTRIES:
            if entry not in (("named", 1, 2, 0), ("struck",)):
                self.assertRaises(InvalidEntry, moved_by, EXAMPLE, OLDEST, entry)
        for entry in ODD_NAMES:
            self.assertRaises(InvalidEntry, moved_by, NAMEABLE, OLDEST, entry)
        self.assertRaises(InvalidEntry, moved_by, EXAMPLE, OLDEST, ("named", 1, 2, 4))
        self.assertRaises(InvalidEntry, moved_by, (), OLDEST, ("named", 1, 2, 0))
        self.assertRaises(InvalidManner, moved_by, EXAMPLE, None, None)
        self.assertRaises(InvalidAccount, moved_by, None, None, None)


class FactsTest(unittest.TestCase):
    def test_f9(self):
        for plain in small_accounts():
            before = sums_in(plain, plain)
            for paid in units("pay", 2):
                for billed in units("bill", 2):
                    late = plain + paid + billed
                    for (bill, payment), much in sums_in(late, plain).items():
                        x = len([1 for index in range(len(plain), len(late)) if late[index][0] == "pay"
                                 and older(late, index, payment)])
                        y = len([1 for index in range(len(plain), len(late)) if late[index][0] == "bill"
                                 and older(late, index, bill)])
                        gap = gap_of(plain, bill, payment) + x - y
                        self.assertEqual(gap_of(late, bill, payment), gap)
                        if before[(bill, payment)] >= 1:
                            self.assertIs(much >= 1, -plain[payment][2] < gap < plain[bill][2])

    def test_f3_by_moved_by(self):
        for seed in range(60):
            plain = plain_account(seed, 12)
            for entry in (("pay", 0, 3), ("bill", 0, 3), ("pay", -3, 7), ("bill", -3, 7)):
                side = 0 if entry[0] == "bill" else 1
                for row in moved_by(plain, OLDEST, entry):
                    self.assertLessEqual(abs(row[3] - row[2]), entry[2])
                    self.assertFalse(older(plain + (entry,), row[side], 12))


if __name__ == "__main__":
    unittest.main()
