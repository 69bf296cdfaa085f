"""[15], F11, F12: tariffs, cost lines, akin layings, and layings compared by every tariff."""

import unittest

from oldestbills.charges import cost
from oldestbills.errors import InvalidAccount
from oldestbills.errors import InvalidDay
from oldestbills.errors import InvalidLaying
from oldestbills.errors import InvalidTariff
from oldestbills.errors import NotAkin
from oldestbills.tariffs import akin
from oldestbills.tariffs import charge
from oldestbills.tariffs import cost_line
from oldestbills.tariffs import dearer_grace
from oldestbills.tariffs import is_tariff
from oldestbills.tariffs import never_dearer
from oldestbills.tariffs import tariff_cost
from tests.helpers import EXAMPLE
from tests.helpers import HUGE_DAY
from tests.helpers import HUGE_SUM
from tests.helpers import MIXED
from tests.helpers import Numbers
from tests.helpers import any_account
from tests.helpers import plain_account
from tests.samples import LONG_TARIFF
from tests.samples import ODD_TARIFFS
from tests.samples import ONE
from tests.samples import TARIFF
from tests.samples import TARIFFS
from tests.samples import TWO
from tests.samples import any_laying
from tests.samples import mixed_up
from tests.samples import sides
from tests.samples import told_charge
from tests.samples import told_cost


def pairs_of_layings(many, entries, days=6, most=5):
    """Accounts with two akin layings each."""
    for seed in range(many):
        account = plain_account(seed, 3 + seed % entries, days, most)
        numbers = Numbers(seed)
        laying = any_laying(account, numbers)
        yield account, laying, mixed_up(account, laying, numbers, 1 + seed % 4)


class IsTariffTest(unittest.TestCase):
    def test_tariffs(self):
        long = (0, tuple([(k, 1) for k in range(-10, 10)]))
        for value in TARIFFS + (long, (HUGE_DAY, ((-HUGE_DAY, HUGE_DAY), (HUGE_DAY, 1))), (0, long[1] + ((99, 1),))):
            self.assertIs(is_tariff(value), True, value)

    def test_values_that_are_none(self):
        for value in ODD_TARIFFS:
            self.assertIs(is_tariff(value), False, value)


class ChargeTest(unittest.TestCase):
    def test_a_tariff_with_corners(self):
        self.assertEqual([charge(TARIFF, delay) for delay in (-4, -3, -2, -1, 0, 1, 3, 4, 5)], [4, 3, 2, 2, 2, 4, 8, 11, 14])
        self.assertEqual([charge((7, ()), delay) for delay in (-2, 0, 3)], [-14, 0, 21])
        self.assertEqual([charge((0, ((-4, 2),)), delay) for delay in (-5, -4, -3, 0)], [0, 0, 2, 8])

    def test_the_kinds_that_are_tariffs(self):
        for delay in range(-9, 10):
            self.assertEqual(charge((0, ((3, 1),)), delay), max(0, delay - 3))
            self.assertEqual(charge((-1, ((0, 2),)), delay), abs(delay))
            corners = (-19, tuple([(at, 2) for at in range(-9, 10)]))
            self.assertEqual(charge(corners, delay) - charge(corners, 0), delay ** 2)

    def test_by_the_words_of_15(self):
        for tariff in TARIFFS:
            for delay in list(range(-40, 40)) + [HUGE_DAY, -HUGE_DAY]:
                self.assertEqual(charge(tariff, delay), told_charge(tariff, delay))

    def test_wrong_arguments(self):
        self.assertRaises(InvalidTariff, charge, (0, []), None)
        for delay in (None, True, "1", (1,), [1]):
            self.assertRaises(InvalidDay, charge, TARIFF, delay)


class CostsTest(unittest.TestCase):
    def test_the_examples(self):
        self.assertEqual([tariff_cost(EXAMPLE, laying, (0, ((1, 1),))) for laying in (ONE, TWO)], [12, 20])
        self.assertEqual([tariff_cost(EXAMPLE, laying, (0, ((0, 1),))) for laying in (ONE, TWO)], [31, 35])
        self.assertEqual([tariff_cost(EXAMPLE, laying, (0, ((-1, 1),))) for laying in (ONE, TWO)], [50, 50])
        self.assertEqual([tariff_cost(EXAMPLE, laying, (1, ())) for laying in (ONE, TWO)], [31, 31])

    def test_cost_lines(self):
        self.assertEqual(cost_line(EXAMPLE, ONE), [(1, 12), (3, 0)])
        self.assertEqual(cost_line(EXAMPLE, TWO), [(-1, 50), (1, 20), (3, 0)])
        self.assertEqual(cost_line(EXAMPLE, []), [])
        self.assertEqual(cost_line((), []), [])
        self.assertEqual(cost_line(MIXED, [(0, 3, 3), (4, 5, 2), (6, 1, 2)]), [(-7, 47), (0, 12), (4, 0)])

    def test_by_the_words_of_15(self):
        for seed in range(60):
            account = any_account(seed, seed % 14)
            laying = any_laying(account, Numbers(seed))
            for tariff in TARIFFS:
                self.assertEqual(tariff_cost(account, laying, tariff), told_cost(account, laying, tariff))
            delays = sorted({account[p][1] - account[b][1] for b, p, _ in laying})
            line = [(delay, told_cost(account, laying, (0, ((delay, 1),)))) for delay in delays]
            self.assertEqual(cost_line(account, laying), line)

    def test_kinds_as_tariffs(self):
        for seed in range(30):
            account = any_account(seed, 12)
            laying = any_laying(account, Numbers(seed))
            self.assertEqual(tariff_cost(account, laying, (0, ((2, 1),))), cost(account, laying, ("late", 2)))
            self.assertEqual(tariff_cost(account, laying, (-1, ((0, 2),))), cost(account, laying, ("apart",)))

    def test_pairs_that_have_nothing(self):
        for tariff in TARIFFS:
            self.assertEqual(tariff_cost((), [], tariff), 0)
            self.assertEqual(tariff_cost(EXAMPLE, [], tariff), 0)

    def test_wrong_arguments(self):
        self.assertRaises(InvalidAccount, tariff_cost, None, None, None)
        self.assertRaises(InvalidLaying, tariff_cost, EXAMPLE, None, None)
        self.assertRaises(InvalidTariff, tariff_cost, EXAMPLE, ONE, ())
        self.assertRaises(InvalidAccount, cost_line, None, None)
        self.assertRaises(InvalidLaying, cost_line, EXAMPLE, tuple(ONE))


class AkinTest(unittest.TestCase):
    def test_the_example(self):
        self.assertIs(akin(EXAMPLE, ONE, TWO), True)
        self.assertIs(akin(EXAMPLE, ONE, ONE), True)
        self.assertIs(akin(EXAMPLE, [], []), True)
        self.assertIs(akin((), [], []), True)

    def test_unlike_on_a_bill_or_of_a_payment(self):
        self.assertIs(akin(EXAMPLE, ONE, []), False)
        self.assertIs(akin(EXAMPLE, [(0, 2, 4)], [(0, 3, 4)]), False)
        self.assertIs(akin(EXAMPLE, [(0, 2, 4)], [(1, 2, 4)]), False)
        self.assertIs(akin(EXAMPLE, [(0, 2, 4)], [(0, 2, 3)]), False)
        self.assertIs(akin(EXAMPLE, [(0, 2, 3), (1, 3, 3)], [(0, 3, 3), (1, 2, 3)]), True)
        self.assertIs(akin(EXAMPLE, [(0, 2, 3), (1, 3, 3)], [(0, 3, 3), (1, 2, 4)]), False)

    def test_by_what_is_laid(self):
        for seed in range(200):
            account = any_account(seed, 4, days=3, most=2)
            one, two = any_laying(account, Numbers(seed)), any_laying(account, Numbers(seed + 1000))
            self.assertIs(akin(account, one, two), sides(one) == sides(two))

    def test_wrong_arguments(self):
        self.assertRaises(InvalidAccount, akin, None, None, None)
        self.assertRaises(InvalidLaying, akin, EXAMPLE, None, ONE)
        self.assertRaises(InvalidLaying, akin, EXAMPLE, ONE, None)


class DearerTest(unittest.TestCase):
    def test_the_example(self):
        self.assertIs(never_dearer(EXAMPLE, ONE, TWO), True)
        self.assertIs(never_dearer(EXAMPLE, TWO, ONE), False)
        self.assertEqual(dearer_grace(EXAMPLE, TWO, ONE), 0)
        self.assertIsNone(dearer_grace(EXAMPLE, ONE, TWO))
        self.assertIsNone(dearer_grace(EXAMPLE, TWO, TWO))

    def test_without_pairs(self):
        for account in ((), EXAMPLE, (("struck",),), (("bill", 1, 1),)):
            self.assertIs(never_dearer(account, [], []), True)
            self.assertIsNone(dearer_grace(account, [], []))

    def test_a_grace_below_0(self):
        account = (("bill", 10, 5), ("bill", 14, 5), ("pay", 1, 5), ("pay", 2, 5))
        self.assertEqual(dearer_grace(account, [(0, 3, 5), (1, 2, 5)], [(0, 2, 5), (1, 3, 5)]), -12)
        self.assertIs(never_dearer(account, [(0, 2, 5), (1, 3, 5)], [(0, 3, 5), (1, 2, 5)]), True)

    def test_neither_one_is_never_dearer(self):
        account = (("bill", 0, 1), ("bill", 1, 1), ("bill", 2, 1), ("pay", 6, 1), ("pay", 7, 1), ("pay", 8, 1))
        # The delays 7, 7 and 4, and 8, 5 and 5.
        one, two = [(0, 4, 1), (1, 5, 1), (2, 3, 1)], [(0, 5, 1), (1, 3, 1), (2, 4, 1)]
        self.assertEqual((dearer_grace(account, one, two), dearer_grace(account, two, one)), (5, 7))
        self.assertIs(never_dearer(account, one, two), False)
        self.assertIs(never_dearer(account, two, one), False)

    def test_against_each_grace_of_a_range(self):
        for account, laying, other in pairs_of_layings(400, 8):
            graces = range(-9, 10)
            dearer = [
                grace for grace in graces
                if told_cost(account, laying, (0, ((grace, 1),))) > told_cost(account, other, (0, ((grace, 1),)))
            ]
            self.assertEqual(dearer_grace(account, laying, other), min(dearer, default=None))
            self.assertIs(never_dearer(account, laying, other), dearer == [])

    def test_f11_and_f12(self):
        for account, laying, other in pairs_of_layings(150, 12):
            sums = [told_cost(account, rows, (5, ())) for rows in (laying, other)]
            self.assertEqual(sums[0], sums[1])
            if never_dearer(account, laying, other):
                for tariff in TARIFFS:
                    self.assertLessEqual(told_cost(account, laying, tariff), told_cost(account, other, tariff))

    def test_at_the_limits_of_use(self):
        for account, laying, other in pairs_of_layings(25, 38, days=2000000, most=HUGE_SUM):
            grace = dearer_grace(account, laying, other)
            self.assertIs(never_dearer(account, laying, other), grace is None)
            if grace is not None:
                costs = [
                    [told_cost(account, rows, (0, ((at, 1),))) for rows in (laying, other)] for at in (grace - 1, grace)
                ]
                self.assertLessEqual(costs[0][0], costs[0][1])
                self.assertGreater(costs[1][0], costs[1][1])

    def test_long_days(self):
        account = (("bill", -HUGE_DAY, 2), ("bill", 0, 2), ("pay", 5, 2), ("pay", HUGE_DAY, 2))
        one, two = [(0, 2, 2), (1, 3, 2)], [(0, 3, 2), (1, 2, 2)]
        self.assertIsNone(dearer_grace(account, one, two))
        self.assertEqual(dearer_grace(account, two, one), 6)
        self.assertEqual(tariff_cost(account, two, LONG_TARIFF), told_cost(account, two, LONG_TARIFF))

    def test_not_akin(self):
        for call in (never_dearer, dearer_grace):
            self.assertRaises(NotAkin, call, EXAMPLE, ONE, [])
            self.assertRaises(NotAkin, call, EXAMPLE, [(0, 2, 1)], [(0, 3, 1)])
            self.assertRaises(NotAkin, call, EXAMPLE, [(0, 2, 1)], [(1, 2, 1)])
            self.assertRaises(InvalidLaying, call, EXAMPLE, [(0, 2, 1)], [(1, 2, 0)])
            self.assertRaises(InvalidLaying, call, EXAMPLE, [(0, 2, 11)], ONE)
            self.assertRaises(InvalidAccount, call, MIXED, [], [(1, 2, 0)])


if __name__ == "__main__":
    unittest.main()
