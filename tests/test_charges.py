"""[6], [14], F5: what layings cost, the cheapest and the dearest one, and dunned bills."""

import unittest

from oldestbills.charges import cheapest
from oldestbills.charges import cost
from oldestbills.charges import dearest
from oldestbills.charges import dunned
from oldestbills.charges import spread
from oldestbills.days import statement
from oldestbills.entries import bills_of
from oldestbills.errors import InvalidAccount
from oldestbills.errors import InvalidDay
from oldestbills.errors import InvalidKind
from oldestbills.errors import InvalidLaying
from oldestbills.errors import InvalidManner
from oldestbills.layings import is_laying
from oldestbills.layings import laid
from oldestbills.layings import overlaps
from tests.helpers import EXAMPLE
from tests.helpers import HUGE_SUM
from tests.helpers import MANNERS
from tests.helpers import MIXED
from tests.helpers import Numbers
from tests.helpers import OLDEST
from tests.helpers import any_account
from tests.helpers import plain_account
from tests.samples import KINDS
from tests.samples import ONE
from tests.samples import TWO
from tests.samples import all_akin
from tests.samples import any_laying
from tests.samples import mixed_up
from tests.samples import sides


def told_cost(account, laying, kind):
    """[6], told tuple by tuple."""
    total = 0
    for bill, payment, much in laying:
        delay = account[payment][1] - account[bill][1]
        if kind[0] == "late":
            total += much * (delay - kind[1] if delay > kind[1] else 0)
        elif kind[0] == "apart":
            total += much * (delay if delay > 0 else -delay)
        else:
            total += much * delay ** 2
    return total


class CostTest(unittest.TestCase):
    def test_the_examples_of_9(self):
        self.assertEqual(laid(EXAMPLE, OLDEST), ONE)
        self.assertEqual(laid(EXAMPLE, ("entered", "oldest")), TWO)
        self.assertEqual(cost(EXAMPLE, ONE, ("late", 0)), 31)

    def test_each_kind(self):
        self.assertEqual(cost(EXAMPLE, TWO, ("late", 0)), 35)
        self.assertEqual([cost(EXAMPLE, TWO, ("late", grace)) for grace in (1, 2, 3, 4)], [20, 10, 0, 0])
        self.assertEqual(cost(EXAMPLE, TWO, ("apart",)), 39)
        self.assertEqual(cost(EXAMPLE, TWO, ("squares",)), 99)

    def test_without_pairs_and_without_entries(self):
        for kind in KINDS:
            self.assertEqual(cost((), [], kind), 0)
            self.assertEqual(cost((("struck",),), [], kind), 0)
            self.assertEqual(cost(EXAMPLE, [], kind), 0)

    def test_named_payments_and_any_laying(self):
        self.assertEqual(cost(MIXED, [(0, 3, 3), (4, 5, 2), (6, 1, 2)], ("late", 2)), 6)
        self.assertEqual(cost(MIXED, [(0, 3, 3), (4, 5, 2), (6, 1, 2)], ("apart",)), 26)

    def test_by_the_words_of_6(self):
        for seed in range(60):
            account = any_account(seed, seed % 16)
            laying = any_laying(account, Numbers(seed))
            for kind in KINDS:
                self.assertEqual(cost(account, laying, kind), told_cost(account, laying, kind))

    def test_great_sums_and_long_delays(self):
        account = (("bill", -10 ** 6, HUGE_SUM), ("pay", 10 ** 6, HUGE_SUM))
        self.assertEqual(cost(account, [(0, 1, HUGE_SUM)], ("squares",)), 4 * 10 ** 42)
        self.assertEqual(cost(account, [(0, 1, HUGE_SUM)], ("late", 2 * 10 ** 6 - 1)), HUGE_SUM)

    def test_wrong_arguments(self):
        self.assertRaises(InvalidAccount, cost, list(EXAMPLE), None, None)
        self.assertRaises(InvalidLaying, cost, EXAMPLE, TWO[::-1], None)
        self.assertRaises(InvalidKind, cost, EXAMPLE, TWO, ("late", -1))


class CheapestTest(unittest.TestCase):
    def test_of_the_example(self):
        self.assertEqual(cheapest(EXAMPLE, TWO), ONE)
        self.assertEqual(cheapest(EXAMPLE, ONE), ONE)
        self.assertEqual(dearest(EXAMPLE, ONE), TWO)
        self.assertEqual(dearest(EXAMPLE, TWO), TWO)
        self.assertEqual(spread(EXAMPLE, TWO, ("late", 0)), (31, 35))

    def test_a_part_of_the_sums_is_laid(self):
        self.assertEqual(cheapest(EXAMPLE, [(0, 2, 2), (1, 3, 1)]), [(0, 2, 1), (0, 3, 1), (1, 2, 1)])
        self.assertEqual(dearest(EXAMPLE, [(0, 3, 1), (1, 2, 1)]), [(0, 2, 1), (1, 3, 1)])

    def test_without_pairs(self):
        for account in ((), (("struck",),), (("bill", 1, 5),), (("pay", 1, 5), ("struck",)), EXAMPLE):
            self.assertEqual((cheapest(account, []), dearest(account, [])), ([], []))
            for kind in KINDS:
                self.assertEqual(spread(account, [], kind), (0, 0))

    def test_many_entries_of_one_day_and_struck_ones(self):
        account = (("bill", 1, 2), ("struck",), ("pay", 1, 2), ("bill", 1, 2), ("pay", 1, 2), ("bill", 1, 2))
        laying = [(0, 4, 1), (3, 2, 2), (5, 4, 1)]
        self.assertEqual(cheapest(account, laying), [(0, 2, 1), (3, 2, 1), (3, 4, 1), (5, 4, 1)])
        self.assertEqual(dearest(account, laying), [(0, 4, 1), (3, 2, 1), (3, 4, 1), (5, 2, 1)])

    def test_f5_against_all_akin_layings(self):
        for seed in range(60):
            account = plain_account(seed, 2 + seed % 6, days=5, most=4)
            laying = any_laying(account, Numbers(seed))
            least, most = cheapest(account, laying), dearest(account, laying)
            others = all_akin(laying)
            self.assertIn(least, others)
            self.assertIn(most, others)
            for kind in KINDS:
                costs = [told_cost(account, other, kind) for other in others]
                self.assertEqual(told_cost(account, least, kind), min(costs))
                self.assertEqual(told_cost(account, most, kind), max(costs))
                self.assertEqual(spread(account, laying, kind), (min(costs), max(costs)))

    def test_of_the_laying_by_days_it_is_f1(self):
        for seed in range(30):
            account = plain_account(seed, 14)
            self.assertEqual(cheapest(account, mixed_up(account, overlaps(account), Numbers(seed))), overlaps(account))

    def test_at_the_limits_of_use(self):
        for seed in range(20):
            account = plain_account(seed, 40, days=2000000, most=HUGE_SUM)
            laying = any_laying(account, Numbers(seed))
            for other in (cheapest(account, laying), dearest(account, laying)):
                self.assertTrue(is_laying(account, other))
                self.assertEqual(sides(other), sides(laying))
            for kind in KINDS:
                low, high = spread(account, laying, kind)
                self.assertEqual(low, told_cost(account, cheapest(account, laying), kind))
                self.assertEqual(high, told_cost(account, dearest(account, laying), kind))
                self.assertTrue(low <= cost(account, laying, kind) <= high)

    def test_named_payments_are_none_of_it(self):
        for call in (cheapest, dearest):
            self.assertRaises(InvalidAccount, call, MIXED, [])
            self.assertRaises(InvalidLaying, call, EXAMPLE, ())
        self.assertRaises(InvalidAccount, spread, MIXED, [], ("apart",))
        self.assertRaises(InvalidLaying, spread, EXAMPLE, ONE + ONE, None)
        self.assertRaises(InvalidKind, spread, EXAMPLE, ONE, ["apart"])


class DunnedTest(unittest.TestCase):
    def test_of_the_example(self):
        self.assertEqual([dunned(EXAMPLE, OLDEST, after) for after in (0, 1, 2, 3)], [[0, 1], [0, 1], [0, 1], [1]])
        self.assertEqual(dunned(EXAMPLE, ("days", "newest"), 1), [0])
        self.assertEqual(dunned((), OLDEST, 0), [])
        self.assertEqual(dunned((("pay", 1, 1), ("struck",)), OLDEST, 0), [])

    def test_along_the_line(self):
        account = (("bill", 9, 1), ("bill", 2, 5), ("bill", 2, 1), ("pay", 2, 2))
        self.assertEqual(dunned(account, OLDEST, 0), [1, 2, 0])
        self.assertEqual(dunned(account, ("days", "newest"), 10 ** 39), [1, 0])

    def test_against_the_statements(self):
        for seed in range(50):
            account = any_account(seed, seed % 15, most=5)
            for manner in MANNERS[:4]:
                for after in (0, 1, 2, 5, 100):
                    told = [
                        bill for bill in bills_of(account)
                        if bill in [row[0] for row in statement(account, manner, account[bill][1] + after)]
                    ]
                    self.assertEqual(dunned(account, manner, after), told)

    def test_wrong_arguments(self):
        for manner in MANNERS[4:]:
            self.assertRaises(InvalidManner, dunned, EXAMPLE, manner, -1)
        for after in (-1, True, None, "1", (1,), -10 ** 39):
            self.assertRaises(InvalidDay, dunned, EXAMPLE, OLDEST, after)
        self.assertRaises(InvalidAccount, dunned, None, MANNERS[4], -1)


if __name__ == "__main__":
    unittest.main()
