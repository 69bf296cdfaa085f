"""[4] for all eight manners, and the facts F1, F2, F3 and F7 of [9]."""

import unittest

from oldestbills.days import owed
from oldestbills.days import waiting
from oldestbills.entries import as_of
from oldestbills.entries import bills_of
from oldestbills.entries import joined
from oldestbills.entries import line
from oldestbills.layings import laid
from oldestbills.layings import opens
from oldestbills.layings import overlaps
from oldestbills.layings import waits
from tests.helpers import HUGE_SUM
from tests.helpers import MANNERS
from tests.helpers import OLDEST
from tests.helpers import Rule
from tests.helpers import any_account
from tests.helpers import plain_account

DAYS = range(-6, 7)


def older(account, index, other):
    return (account[index][1], index) < (account[other][1], other)


class RuleTest(unittest.TestCase):
    def compare(self, account):
        for manner in MANNERS:
            self.assertEqual(laid(account, manner), Rule(account, manner).laying(), (account, manner))

    def test_small_accounts(self):
        for seed in range(200):
            self.compare(any_account(seed, seed % 9, days=4, most=5))

    def test_accounts_of_forty_entries(self):
        for seed in range(25):
            self.compare(any_account(seed, 40, days=15, most=30))

    def test_many_entries_of_one_day_and_like_sums(self):
        for seed in range(60):
            self.compare(any_account(seed, 16, days=1, most=3))
            self.compare(any_account(seed, 16, days=3, most=2))

    def test_many_named_payments(self):
        for seed in range(60):
            self.compare(any_account(seed, 20, words=("bill", "bill", "named")))

    def test_great_sums(self):
        for seed in range(20):
            self.compare(any_account(seed, 15, most=HUGE_SUM))


class FactsTest(unittest.TestCase):
    def test_f1_overlaps(self):
        for seed in range(100):
            account = plain_account(seed, seed % 25)
            self.assertEqual(overlaps(account), laid(account, OLDEST))
            if overlaps(account):
                self.assertLess(len(overlaps(account)), len(line(account)))

    def test_f2_the_same_by_all_manners(self):
        for seed in range(60):
            account = any_account(seed, 15)
            sums = {(sum(opens(account, manner)), sum(waits(account, manner))) for manner in MANNERS}
            self.assertEqual(len(sums), 1)
            self.assertIn(0, sums.pop())

    def test_f2_what_is_laid_by_days_stays(self):
        for seed in range(40):
            account = any_account(seed, 15)
            for manner in MANNERS[:4]:
                before = {}
                for day in DAYS:
                    after = {row[:2]: row[2] for row in laid(as_of(account, day), manner)}
                    self.assertTrue(all(after.get(pair, 0) >= before[pair] for pair in before))
                    before = after

    def check_entry(self, account, entry):
        late = account + (entry,)
        place = len(account)
        before = {row[:2]: row[2] for row in laid(account, OLDEST)}
        after = {row[:2]: row[2] for row in laid(late, OLDEST)}
        side = 0 if entry[0] == "bill" else 1
        for pair in set(before) | set(after):
            much = after.get(pair, 0) - before.get(pair, 0)
            self.assertLessEqual(abs(much), entry[2])
            if older(late, pair[side], place):
                self.assertEqual(much, 0)
        if entry[0] == "pay":
            for bill, was, now in zip(bills_of(account), opens(account, OLDEST), opens(late, OLDEST)):
                self.assertLessEqual(now, was)

    def test_f3_what_one_entry_moves(self):
        for seed in range(40):
            account = plain_account(seed, 12)
            for day in DAYS:
                for much in (1, 4):
                    self.check_entry(account, ("pay", day, much))
                    self.check_entry(account, ("bill", day, much))

    def test_f7_joined_accounts(self):
        for seed in range(40):
            one, two = any_account(seed, 7), any_account(seed + 400, 8)
            both = joined(one, two)
            for day in DAYS:
                more = owed(one, day) + owed(two, day) - owed(both, day)
                crossed = min(owed(one, day), waiting(two, day)) + min(owed(two, day), waiting(one, day))
                self.assertEqual(more, crossed)


if __name__ == "__main__":
    unittest.main()
