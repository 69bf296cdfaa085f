"""[15], F13, F14: crossings, exchanges, prices, and layings that cost less."""

import unittest

from oldestbills.charges import cheapest
from oldestbills.charges import dearest
from oldestbills.errors import InvalidAccount
from oldestbills.errors import InvalidExchange
from oldestbills.errors import InvalidLaying
from oldestbills.errors import InvalidTariff
from oldestbills.layings import is_laying
from oldestbills.tariffs import akin
from oldestbills.tariffs import cheaper
from oldestbills.tariffs import crossings
from oldestbills.tariffs import exchanged
from oldestbills.tariffs import exchanges
from oldestbills.tariffs import judge_exchanges
from oldestbills.tariffs import judge_prices
from oldestbills.tariffs import never_dearer
from oldestbills.tariffs import prices
from oldestbills.tariffs import tariff_cost
from tests.helpers import EXAMPLE
from tests.helpers import HUGE_SUM
from tests.helpers import MIXED
from tests.helpers import Numbers
from tests.helpers import ODD
from tests.helpers import plain_account
from tests.samples import LONG_TARIFF
from tests.samples import ODD_EXCHANGES
from tests.samples import ONE
from tests.samples import TARIFF
from tests.samples import TARIFFS
from tests.samples import TWO
from tests.samples import all_akin
from tests.samples import any_laying
from tests.samples import mixed_up
from tests.samples import older
from tests.samples import told_charge
from tests.samples import told_cost

LATE = (0, ((0, 1),))
EMPTY = ((), (("struck",),), (("bill", 1, 5),), (("pay", 1, 5), ("struck",)), EXAMPLE)


def layings(many, entries, days=6, most=5):
    """Accounts with a laying each."""
    for seed in range(many):
        account = plain_account(seed, 2 + seed % entries, days, most)
        yield account, any_laying(account, Numbers(seed))


def full_layings(many):
    """Accounts at the limit of use, each with a laying of nearly all the pairs that it can have."""
    for seed in range(many):
        words = ("bill", "pay") * 20 if seed % 2 else ("bill",) * 20 + ("pay",) * 20
        numbers = Numbers(seed)
        rows = [(word, numbers.below(2000000) - 10 ** 6, HUGE_SUM - numbers.below(9)) for word in words]
        bills = [index for index, row in enumerate(rows) if row[0] == "bill"]
        payments = [index for index, row in enumerate(rows) if row[0] == "pay"]
        laying = [(b, p, 1 + numbers.below(HUGE_SUM // 20 - 1)) for b in bills for p in payments]
        yield tuple(rows), laying


def told_behind(laying, exchange):
    """[15]: the laying behind an exchange."""
    b, p, c, q, much = exchange
    sums = {(bill, payment): rest for bill, payment, rest in laying}
    sums[(b, p)] -= much
    sums[(c, q)] -= much
    sums[(b, q)] = sums.get((b, q), 0) + much
    sums[(c, p)] = sums.get((c, p), 0) + much
    return sorted([(bill, payment, rest) for (bill, payment), rest in sums.items() if rest])


def all_exchanges(account, laying):
    """All exchanges in a laying."""
    return [
        (b, p, c, q, much) for b, p, s in laying for c, q, t in laying
        if older(account, b, c) and older(account, q, p) for much in range(1, min(s, t) + 1)
    ]


def do_show(account, laying, tariff, value):
    """[15]: whether prices show a laying."""
    alive = [index for index, entry in enumerate(account) if entry[0] != "struck"]
    along = sorted(alive, key=lambda index: (account[index][1], index))
    us = dict(zip([index for index in along if account[index][0] == "bill"], value[0], strict=True))
    vs = dict(zip([index for index in along if account[index][0] == "pay"], value[1], strict=True))
    pairs = {(b, p) for b, p, _ in laying}
    for b in us:
        for p in vs:
            less = told_charge(tariff, account[p][1] - account[b][1]) - us[b] - vs[p]
            if less < 0 or (b, p) in pairs and less:
                return False
    return True


class CrossingsTest(unittest.TestCase):
    def test_the_example(self):
        self.assertEqual(crossings(EXAMPLE, TWO), [(0, 2)])
        self.assertEqual(crossings(EXAMPLE, ONE), [])
        for account in EMPTY:
            self.assertEqual(crossings(account, []), [])

    def test_whichever_of_both_has_the_older_bill(self):
        account = (("bill", 5, 2), ("bill", 1, 2), ("pay", 9, 2), ("pay", 7, 2))
        self.assertEqual(crossings(account, [(0, 3, 1), (1, 2, 1)]), [(0, 1)])
        self.assertEqual(crossings(account, [(0, 2, 1), (1, 3, 1)]), [])
        self.assertEqual(crossings(account, [(0, 2, 1), (0, 3, 1), (1, 2, 1), (1, 3, 1)]), [(1, 2)])

    def test_entries_of_one_day(self):
        account = (("bill", 1, 2), ("pay", 1, 2), ("bill", 1, 2), ("struck",), ("pay", 1, 2))
        self.assertEqual(crossings(account, [(0, 4, 1), (2, 1, 1)]), [(0, 1)])
        self.assertEqual(crossings(account, [(0, 1, 1), (2, 4, 1)]), [])

    def test_by_the_words_of_15(self):
        for account, laying in layings(150, 14):
            many = range(len(laying))
            told = [
                (k, m) for k in many for m in many if k < m and any([
                    older(account, one[0], two[0]) and older(account, two[1], one[1])
                    for one, two in ((laying[k], laying[m]), (laying[m], laying[k]))
                ])
            ]
            self.assertEqual(crossings(account, laying), told)
            self.assertEqual(told == [], laying == cheapest(account, laying))

    def test_wrong_arguments(self):
        self.assertRaises(InvalidAccount, crossings, MIXED, [])
        self.assertRaises(InvalidLaying, crossings, EXAMPLE, ONE[::-1])


class ExchangedTest(unittest.TestCase):
    def test_the_example(self):
        self.assertEqual(exchanged(EXAMPLE, TWO, (0, 2, 1, 3, 4)), ONE)
        self.assertEqual(exchanged(EXAMPLE, TWO, (0, 2, 1, 3, 1)), [(0, 2, 9), (0, 3, 1), (1, 2, 6), (1, 3, 3)])

    def test_pairs_of_sum_0_are_none(self):
        account = (("bill", 1, 2), ("bill", 2, 2), ("pay", 3, 2), ("pay", 4, 2))
        self.assertEqual(exchanged(account, [(0, 3, 2), (1, 2, 2)], (0, 3, 1, 2, 2)), [(0, 2, 2), (1, 3, 2)])
        self.assertEqual(exchanged(account, [(0, 3, 1), (1, 2, 2)], (0, 3, 1, 2, 1)), [(0, 2, 1), (1, 2, 1), (1, 3, 1)])

    def test_f13_all_exchanges(self):
        for account, laying in layings(80, 9):
            for exchange in all_exchanges(account, laying):
                behind = exchanged(account, laying, exchange)
                self.assertEqual(behind, told_behind(laying, exchange))
                self.assertTrue(is_laying(account, behind))
                self.assertTrue(akin(account, behind, laying))
                self.assertTrue(never_dearer(account, behind, laying))

    def test_exchanges_that_are_none(self):
        for exchange in ODD_EXCHANGES:
            self.assertRaises(InvalidExchange, exchanged, EXAMPLE, TWO, exchange)
        self.assertRaises(InvalidExchange, exchanged, EXAMPLE, ONE, (0, 2, 1, 3, 4))
        self.assertRaises(InvalidExchange, exchanged, EXAMPLE, ONE, (0, 3, 1, 2, 4))
        self.assertRaises(InvalidExchange, exchanged, (), [], (0, 2, 1, 3, 4))
        self.assertRaises(InvalidLaying, exchanged, EXAMPLE, TWO[::-1], None)
        self.assertRaises(InvalidAccount, exchanged, MIXED, TWO[::-1], None)


class ExchangesTest(unittest.TestCase):
    def follow(self, account, laying):
        """Goes through the exchanges one by one, up to the cheapest laying."""
        rows = exchanges(account, laying)
        self.assertIs(type(rows), list)
        self.assertIs(judge_exchanges(account, laying, rows), True)
        at = laying
        for exchange in rows:
            at = exchanged(account, at, exchange)
        self.assertEqual(at, cheapest(account, laying))
        return rows

    def test_the_example(self):
        self.assertEqual(self.follow(EXAMPLE, TWO), [(0, 2, 1, 3, 4)])
        self.assertEqual(exchanges(EXAMPLE, ONE), [])
        for account in EMPTY:
            self.assertEqual(exchanges(account, []), [])

    def test_none_for_the_cheapest_one_alone(self):
        for account, laying in layings(150, 14):
            self.assertEqual(self.follow(account, laying) == [], laying == cheapest(account, laying))

    def test_from_the_dearest_laying(self):
        for account, laying in layings(60, 25):
            self.follow(account, dearest(account, laying))

    def test_many_entries_of_one_day(self):
        for account, laying in layings(40, 20, days=1, most=3):
            self.follow(account, laying)

    def test_at_the_limits_of_use(self):
        for account, laying in layings(10, 39, days=2000000, most=HUGE_SUM):
            self.follow(account, laying)
        for account, laying in full_layings(2):
            self.assertEqual(len(laying), 400)
            self.assertTrue(judge_exchanges(account, laying, exchanges(account, laying)))

    def test_judged(self):
        judge = judge_exchanges
        self.assertIs(judge(EXAMPLE, TWO, [(0, 2, 1, 3, 4)]), True)
        self.assertIs(judge(EXAMPLE, TWO, [(0, 2, 1, 3, 1), (0, 2, 1, 3, 3)]), True)
        self.assertIs(judge(EXAMPLE, TWO, [(0, 2, 1, 3, 1)] * 4), True)
        self.assertIs(judge(EXAMPLE, ONE, []), True)
        for account in EMPTY:
            self.assertIs(judge(account, [], []), True)

    def test_judged_to_be_none(self):
        for value in (
            [], ((0, 2, 1, 3, 4),), [(0, 2, 1, 3, 3)], [(0, 2, 1, 3, 1)] * 3, [(0, 2, 1, 3, 1)] * 5,
            [(0, 2, 1, 3, 4), (0, 2, 1, 3, 1)], [(0, 2, 1, 3, 4), None], [None], [[0, 2, 1, 3, 4]], (0, 2, 1, 3, 4),
            [(0, 2, 1, 3, 4), []], {(0, 2, 1, 3, 4): 1}, [(0, 2, 1, 3, 4), (1, 2, 0, 3, 4)],
        ):
            self.assertIs(judge_exchanges(EXAMPLE, TWO, value), False, value)
        for value in ODD_EXCHANGES:
            self.assertIs(judge_exchanges(EXAMPLE, TWO, value), False)
            self.assertIs(judge_exchanges(EXAMPLE, TWO, [value]), False)
            self.assertIs(judge_exchanges(EXAMPLE, TWO, [(0, 2, 1, 3, 4), value]), False)
        self.assertIs(judge_exchanges(EXAMPLE, ONE, [(0, 2, 1, 3, 4)]), False)
        self.assertIs(judge_exchanges((), [], ()), False)

    def test_wrong_arguments(self):
        for call, more in ((exchanges, ()), (judge_exchanges, ([],))):
            self.assertRaises(InvalidAccount, call, MIXED, None, *more)
            self.assertRaises(InvalidLaying, call, EXAMPLE, tuple(ONE), *more)


class PricesTest(unittest.TestCase):
    def test_the_example(self):
        self.assertIs(judge_prices(EXAMPLE, ONE, LATE, ([0, -2], [1, 3])), True)
        self.assertIs(judge_prices(EXAMPLE, TWO, LATE, ([0, -2], [1, 3])), False)
        self.assertTrue(do_show(EXAMPLE, ONE, LATE, prices(EXAMPLE, ONE, LATE)))
        self.assertIsNone(prices(EXAMPLE, TWO, LATE))

    def test_without_bills_or_payments_or_pairs(self):
        for tariff in TARIFFS:
            for account in EMPTY + ((("bill", 3, 1), ("bill", 1, 1)), (("pay", 3, 1), ("struck",), ("pay", 1, 1))):
                value = prices(account, [], tariff)
                self.assertTrue(do_show(account, [], tariff, value))
                self.assertIs(judge_prices(account, [], tariff, value), True)
        self.assertEqual(prices((), [], TARIFF), ([], []))

    def check(self, account, laying, tariff, least):
        """Prices and cheaper against what an akin laying costs at the least."""
        value, other = prices(account, laying, tariff), cheaper(account, laying, tariff)
        self.assertEqual(tariff_cost(account, cheapest(account, laying), tariff), least)
        if told_cost(account, laying, tariff) == least:
            self.assertIsNone(other)
            self.assertIs(type(value), tuple)
            self.assertEqual([type(part) for part in value], [list, list])
            self.assertEqual({type(price) for part in value for price in part} | {int}, {int})
            self.assertTrue(do_show(account, laying, tariff, value))
            self.assertIs(judge_prices(account, laying, tariff, value), True)
        else:
            self.assertIsNone(value)
            self.assertTrue(akin(account, laying, other))
            self.assertLess(told_cost(account, other, tariff), told_cost(account, laying, tariff))

    def test_f14_against_all_akin_layings(self):
        for account, laying in layings(60, 6, most=4):
            others = all_akin(laying)
            for tariff in TARIFFS:
                self.check(account, laying, tariff, min([told_cost(account, other, tariff) for other in others]))

    def test_prices_that_show_one_show_each_that_costs_the_same(self):
        for account, laying in layings(40, 6, most=3):
            for tariff in TARIFFS[:7]:
                value = prices(account, cheapest(account, laying), tariff)
                for other in all_akin(laying):
                    self.assertIs(judge_prices(account, other, tariff, value), cheaper(account, other, tariff) is None)

    def test_accounts_of_more_entries(self):
        for account, laying in layings(60, 30, days=12):
            for tariff in TARIFFS:
                for rows in (laying, cheapest(account, laying), mixed_up(account, cheapest(account, laying), Numbers(1), 2)):
                    self.check(account, rows, tariff, told_cost(account, cheapest(account, laying), tariff))

    def test_at_the_limits_of_use(self):
        long = (-10 ** 30, tuple([(10 ** 5 * (k - 10), 10 ** 29 + k) for k in range(20)]))
        accounts = list(layings(4, 39, days=2000000, most=HUGE_SUM)) + list(full_layings(2))
        for account, laying in accounts:
            for tariff in (long, LONG_TARIFF, (10 ** 30, ())):
                least = told_cost(account, cheapest(account, laying), tariff)
                self.check(account, laying, tariff, least)
                self.check(account, cheapest(account, laying), tariff, least)
        self.check(accounts[-1][0], accounts[-1][1], (3, ()), told_cost(accounts[-1][0], accounts[-1][1], (3, ())))

    def test_judged_to_be_none(self):
        for value in ODD + (
            (), ([0, -2],), [[0, -2], [1, 3]], ((0, -2), (1, 3)), ([0, -2], (1, 3)), ([0, -2], [1, 3], []),
            ([0], [1, 3]), ([0, -2], [1]), ([0, -2, 0], [1, 3]), ([0, -2], [1, 3, 0]), ([], []), ([0, "-2"], [1, 3]),
            ([0, -2], [True, 3]), ([False, -2], [1, 3]), ([0, -2], [1, None]), ([0, -2], [3, 1]), ([-2, 0], [1, 3]),
            ([0, -2], [1, 4]), ([0, -2], [0, 3]), ([1, -2], [1, 3]), ([0, -3], [1, 3]), ([[0], -2], [1, 3]), ("", ""),
        ):
            self.assertIs(judge_prices(EXAMPLE, ONE, LATE, value), False, value)
        self.assertIs(judge_prices(EXAMPLE, ONE, LATE, ([5, 3], [-4, -2])), True)
        self.assertIs(judge_prices(EXAMPLE, [(0, 2, 6)], LATE, ([0, -2], [1, 3])), True)
        self.assertIs(judge_prices(EXAMPLE, [], LATE, ([0, -3], [-9, 3])), True)
        self.assertIs(judge_prices(EXAMPLE, [], LATE, ([0, -2], [2, 3])), False)
        self.assertIs(judge_prices((), [], LATE, ([], [])), True)
        self.assertIs(judge_prices((), [], LATE, ((), ())), False)

    def test_wrong_arguments(self):
        for call, more in ((prices, ()), (judge_prices, (([0, -2], [1, 3]),)), (cheaper, ())):
            self.assertRaises(InvalidAccount, call, MIXED, None, None, *more)
            self.assertRaises(InvalidLaying, call, EXAMPLE, None, None, *more)
            self.assertRaises(InvalidTariff, call, EXAMPLE, ONE, (0, ((0, 0),)), *more)

    def test_cheaper(self):
        self.assertEqual(cheaper(EXAMPLE, TWO, LATE), ONE)
        self.assertIsNone(cheaper(EXAMPLE, ONE, LATE))
        self.assertIsNone(cheaper(EXAMPLE, TWO, (4, ())))
        self.assertIsNone(cheaper(EXAMPLE, TWO, (0, ((-1, 5),))))
        self.assertIsNone(cheaper((), [], LATE))


if __name__ == "__main__":
    unittest.main()
