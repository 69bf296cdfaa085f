"""[17], F4: pairs over all sequences of entering, and where two rules part."""

import itertools
import unittest

from oldestbills.entries import is_account
from oldestbills.errors import InvalidAccount
from oldestbills.errors import InvalidBill
from oldestbills.errors import InvalidIndex
from oldestbills.errors import InvalidManner
from oldestbills.errors import InvalidPayment
from oldestbills.layings import laid
from oldestbills.orders import entered_so
from oldestbills.orders import greatest_order
from oldestbills.orders import least_order
from oldestbills.orders import order_counts
from oldestbills.orders import order_range
from oldestbills.orders import order_reason
from oldestbills.orders import pairs_in
from oldestbills.orders import parting
from oldestbills.orders import same_in_any
from oldestbills.orders import sure_in_any
from oldestbills.orders import two_orders
from tests.helpers import EXAMPLE
from tests.helpers import HUGE_SUM
from tests.helpers import MANNERS
from tests.helpers import MIXED
from tests.helpers import Numbers
from tests.helpers import ODD_MANNERS
from tests.helpers import Rule
from tests.helpers import any_account
from tests.helpers import plain_account
from tests.samples import ODD_ORDERS

ENTERED = ("entered", "oldest")


def pairs_of(account):
    many = range(len(account))
    return [(b, p) for b in many for p in many if account[b][0] == "bill" and account[p][0] == "pay"]


def sequences_of(account):
    return list(itertools.permutations(range(len(account))))


def any_sequence(many, numbers):
    rest = list(range(many))
    return tuple([rest.pop(numbers.below(len(rest))) for _ in range(many)])


def told_pairs(account, order):
    """[17]: the laying by the rule of [4] of the account in this sequence, by the indexes of the account."""
    rows = Rule(tuple([account[index] for index in order]), ENTERED).laying()
    return sorted([(order[bill], order[payment], much) for bill, payment, much in rows])


def small_accounts():
    for seed in range(70):
        yield plain_account(seed, seed % 6, days=1 + seed % 4, most=1 + seed % 6)


class EnteredSoTest(unittest.TestCase):
    def test_plain_accounts(self):
        self.assertEqual(entered_so(EXAMPLE, (2, 1, 0, 3)), (EXAMPLE[2], EXAMPLE[1], EXAMPLE[0], EXAMPLE[3]))
        self.assertEqual(entered_so(EXAMPLE, (0, 1, 2, 3)), EXAMPLE)
        self.assertEqual(entered_so((), ()), ())
        self.assertEqual(entered_so((("struck",), ("pay", 1, 2)), (1, 0)), (("pay", 1, 2), ("struck",)))

    def test_named_payments(self):
        self.assertEqual(
            entered_so(MIXED, (6, 5, 4, 3, 2, 1, 0)),
            (("bill", 9, 2), ("named", 1, 2, 6), ("bill", 1, 7), ("named", 5, 3, 2), ("struck",), ("pay", 2, 4), MIXED[0]),
        )
        for seed in range(60):
            account = any_account(seed, 12)
            order = any_sequence(12, Numbers(seed))
            entered = entered_so(account, order)
            self.assertTrue(is_account(entered))
            for place, index in enumerate(order):
                self.assertEqual(entered[place][:3], account[index][:3])
                if account[index][0] == "named":
                    self.assertEqual(order[entered[place][3]], account[index][3])

    def test_sequences_that_are_none(self):
        for order in ODD_ORDERS:
            self.assertRaises(InvalidIndex, entered_so, EXAMPLE, order)
            self.assertRaises(InvalidIndex, pairs_in, EXAMPLE, order)
            self.assertRaises(InvalidIndex, entered_so, MIXED, order)
        self.assertRaises(InvalidIndex, entered_so, (), (0,))
        self.assertRaises(InvalidIndex, entered_so, (), [])
        self.assertRaises(InvalidAccount, entered_so, None, None)
        self.assertRaises(InvalidAccount, pairs_in, MIXED, None)


class PairsInTest(unittest.TestCase):
    def test_the_examples(self):
        self.assertEqual(pairs_in(EXAMPLE, (2, 1, 0, 3)), [(0, 2, 5), (0, 3, 4), (1, 2, 10)])
        self.assertEqual(pairs_in(EXAMPLE, (0, 1, 2, 3)), [(0, 2, 10), (1, 2, 5), (1, 3, 4)])
        self.assertEqual(pairs_in((), ()), [])

    def test_entries_of_one_day_are_as_old_as_they_are_entered(self):
        account = (("bill", 1, 1), ("bill", 1, 1), ("pay", 1, 1))
        self.assertEqual(pairs_in(account, (0, 1, 2)), [(0, 2, 1)])
        self.assertEqual(pairs_in(account, (1, 0, 2)), [(1, 2, 1)])

    def test_by_the_rule_of_4(self):
        for seed in range(80):
            account = plain_account(seed, seed % 14, days=4)
            order = any_sequence(len(account), Numbers(seed))
            self.assertEqual(pairs_in(account, order), told_pairs(account, order))


class RangeTest(unittest.TestCase):
    def test_the_example(self):
        self.assertEqual([order_range(EXAMPLE, 0, payment) for payment in (2, 3)], [(5, 10), (0, 4)])
        self.assertEqual(sure_in_any(EXAMPLE), [(0, 2), (1, 2)])
        self.assertEqual(same_in_any(EXAMPLE), [])
        self.assertIs(order_counts(EXAMPLE), True)
        self.assertIsNone(order_reason(EXAMPLE))

    def test_f4_against_all_sequences(self):
        for account in small_accounts():
            rows = [told_pairs(account, order) for order in sequences_of(account)]
            sums = [{(b, p): much for b, p, much in row} for row in rows]
            sure, same = [], []
            for pair in pairs_of(account):
                found = [row.get(pair, 0) for row in sums]
                low, high = min(found), max(found)
                self.assertEqual(order_range(account, *pair), (low, high))
                least, greatest = least_order(account, *pair), greatest_order(account, *pair)
                self.assertEqual(dict(zip(sequences_of(account), sums))[least].get(pair, 0), low)
                self.assertEqual(dict(zip(sequences_of(account), sums))[greatest].get(pair, 0), high)
                sure += [pair] if low else []
                same += [pair + (low,)] if low == high else []
            self.assertEqual((sure_in_any(account), same_in_any(account)), (sure, same))
            self.assertIs(order_counts(account), any(row != rows[0] for row in rows))

    def test_the_reason(self):
        for account in ((), (("struck",),), (("bill", 1, 1), ("bill", 2, 1)), (("pay", 1, 1), ("struck",))):
            self.assertEqual(order_reason(account), ("none",))
            self.assertIs(order_counts(account), False)
            self.assertIsNone(two_orders(account))
        one_bill = (("pay", 1, 3), ("struck",), ("bill", 1, 5), ("pay", 2, 2))
        self.assertEqual(order_reason(one_bill), ("bill", 2))
        self.assertEqual(same_in_any(one_bill), [(2, 0, 3), (2, 3, 2)])
        self.assertIsNone(order_reason(one_bill + (("pay", 2, 1),)))
        one_payment = (("bill", 1, 3), ("struck",), ("bill", 1, 5), ("pay", 2, 8))
        self.assertEqual(order_reason(one_payment), ("payment", 3))
        self.assertIsNone(order_reason(one_payment + (("bill", 2, 1),)))

    def test_the_reason_for_one_bill_and_one_payment(self):
        self.assertEqual(order_reason((("bill", 1, 5), ("pay", 1, 5))), ("bill", 0))
        self.assertEqual(order_reason((("bill", 1, 6), ("pay", 1, 5))), ("bill", 0))
        self.assertEqual(order_reason((("bill", 1, 5), ("pay", 1, 6))), ("payment", 1))

    def test_the_reason_goes_with_order_counts(self):
        for account in small_accounts():
            self.assertIs(order_counts(account), order_reason(account) is None)

    def test_two_orders(self):
        for account in list(small_accounts()) + [plain_account(seed, 40, most=HUGE_SUM) for seed in range(10)]:
            found = two_orders(account)
            if order_counts(account):
                self.assertEqual((type(found), len(found)), (tuple, 2))
                self.assertNotEqual(pairs_in(account, found[0]), pairs_in(account, found[1]))
            else:
                self.assertIsNone(found)

    def test_at_the_limits_of_use(self):
        for seed in range(12):
            account = plain_account(seed, 40, days=2000000, most=HUGE_SUM)
            for bill, payment in pairs_of(account)[::37]:
                told = []
                for order in (least_order(account, bill, payment), greatest_order(account, bill, payment)):
                    self.assertEqual((type(order), sorted(order)), (tuple, list(range(40))))
                    told += [dict([(row[:2], row[2]) for row in pairs_in(account, order)]).get((bill, payment), 0)]
                self.assertEqual(order_range(account, bill, payment), tuple(told))

    def test_wrong_arguments(self):
        for call in (order_range, least_order, greatest_order):
            self.assertRaises(InvalidAccount, call, MIXED, None, None)
            for bill in (2, -1, 4, True, None, "0"):
                self.assertRaises(InvalidBill, call, EXAMPLE, bill, None)
            for payment in (0, -1, 4, True, None, "2"):
                self.assertRaises(InvalidPayment, call, EXAMPLE, 0, payment)
        for call in (sure_in_any, same_in_any, order_counts, order_reason, two_orders):
            for plain in (MIXED, list(EXAMPLE), None):
                self.assertRaises(InvalidAccount, call, plain)


class PartingTest(unittest.TestCase):
    def test_all_manners_against_all_small_accounts(self):
        entries = sorted(itertools.product(("bill", "pay"), range(3), (1, 2)))
        accounts = [rows for many in range(4) for rows in itertools.product(entries, repeat=many)]
        self.assertEqual(accounts, sorted(accounts, key=lambda account: (len(account), account)))
        rows = {manner: [laid(account, manner) for account in accounts] for manner in MANNERS}
        for manner, other in itertools.product(MANNERS, MANNERS):
            told = [account for account, one, two in zip(accounts, rows[manner], rows[other]) if one != two]
            self.assertEqual(parting(manner, other), told[0] if told else None)
            self.assertIs(told == [], manner == other)

    def test_wrong_arguments(self):
        for manner in ODD_MANNERS:
            self.assertRaises(InvalidManner, parting, manner, ENTERED)
            self.assertRaises(InvalidManner, parting, ENTERED, manner)
            self.assertRaises(InvalidManner, parting, manner, manner)


if __name__ == "__main__":
    unittest.main()
