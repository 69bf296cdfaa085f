"""[4], [12]: layings."""

import unittest

from oldestbills.entries import bills_of
from oldestbills.entries import changed
from oldestbills.entries import line
from oldestbills.entries import payments_of
from oldestbills.entries import struck
from oldestbills.errors import InvalidAccount
from oldestbills.errors import InvalidBill
from oldestbills.errors import InvalidManner
from oldestbills.errors import InvalidPayment
from oldestbills.layings import is_laying
from oldestbills.layings import laid
from oldestbills.layings import moved
from oldestbills.layings import opens
from oldestbills.layings import overlaps
from oldestbills.layings import paid_by
from oldestbills.layings import payers
from oldestbills.layings import waits
from tests.helpers import EXAMPLE
from tests.helpers import HUGE_DAY
from tests.helpers import HUGE_SUM
from tests.helpers import MANNERS
from tests.helpers import MIXED
from tests.helpers import ODD
from tests.helpers import OLDEST
from tests.helpers import any_account
from tests.helpers import plain_account

FIRST = [(0, 2, 6), (0, 3, 4), (1, 2, 9)]


class IsLayingTest(unittest.TestCase):
    def test_layings(self):
        for value in (
            [], FIRST, [(0, 2, 10), (1, 2, 5), (1, 3, 4)], [(0, 3, 1)], [(1, 3, 4)], [(0, 2, 10)],
            [(0, 2, 1), (0, 3, 1), (1, 2, 1), (1, 3, 1)],
        ):
            self.assertIs(is_laying(EXAMPLE, value), True, value)

    def test_named_payments_may_be_laid_on_any_bill(self):
        self.assertIs(is_laying(MIXED, [(0, 3, 3), (4, 5, 2), (6, 1, 2)]), True)
        self.assertIs(is_laying((("pay", 1, 2), ("bill", 9, 2)), [(1, 0, 2)]), True)

    def test_no_lists_of_such_tuples(self):
        for value in ODD[:5] + ((), tuple(FIRST), 7, FIRST[0], [FIRST], [list(row) for row in FIRST], {}, "pairs"):
            self.assertIs(is_laying(EXAMPLE, value), False, value)
        for row in ODD + ((), 7, (0, 2), (0, 2, 1, 1), [0, 2, 1], ((0, 2), 1)):
            self.assertIs(is_laying(EXAMPLE, [row]), False, row)
            self.assertIs(is_laying(EXAMPLE, [(0, 2, 1), row]), False, row)

    def test_tuples_of_other_indexes_and_sums(self):
        for row in (
            (0, 1, 1), (2, 0, 1), (2, 3, 1), (-1, 2, 1), (-4, 2, 1), (0, -1, 1), (0, -2, 1), (0, 4, 1), (4, 2, 1),
            (False, 2, 1), (True, 2, 1), (0, True, 1), (0, 2, True), (0, 2, 0), (0, 2, -1), ("0", 2, 1), (0, "2", 1),
            (0, 2, "1"), (None, 2, 1), (0, None, 1), (0, 2, None), ((0,), 2, 1), (0, [2], 1), (0, 2, (1,)),
        ):
            self.assertIs(is_laying(EXAMPLE, [row]), False, row)

    def test_struck_entries_have_no_pairs(self):
        self.assertIs(is_laying((("struck",), ("pay", 1, 1), ("bill", 1, 1)), [(0, 1, 1)]), False)
        self.assertIs(is_laying((("bill", 1, 1), ("struck",), ("pay", 1, 1)), [(0, 1, 1)]), False)
        self.assertIs(is_laying((("bill", 1, 1), ("struck",), ("pay", 1, 1)), [(0, 2, 1)]), True)

    def test_too_much_on_a_bill_or_of_a_payment(self):
        for value in ([(0, 2, 11)], [(0, 3, 5)], [(0, 2, 7), (0, 3, 4)], [(0, 2, 8), (1, 2, 8)], [(0, 2, HUGE_SUM)]):
            self.assertIs(is_laying(EXAMPLE, value), False, value)

    def test_not_ascending_and_pairs_that_come_twice(self):
        for value in (
            FIRST[::-1], [FIRST[1], FIRST[0], FIRST[2]], [(1, 2, 9), (0, 2, 6)], [(0, 2, 1), (0, 2, 2)],
            [(0, 2, 1), (0, 2, 1)], [(0, 2, 2), (0, 2, 1)], [(0, 2, 1), (0, 3, 1), (0, 2, 2)],
        ):
            self.assertIs(is_laying(EXAMPLE, value), False, value)

    def test_the_empty_account(self):
        self.assertIs(is_laying((), []), True)
        self.assertIs(is_laying((), [(0, 0, 1)]), False)
        self.assertRaises(InvalidAccount, is_laying, [], [])

    def test_what_is_laid_is_one(self):
        for seed in range(30):
            account = any_account(seed, 14)
            for manner in MANNERS:
                self.assertIs(is_laying(account, laid(account, manner)), True)


class LaidTest(unittest.TestCase):
    def test_the_examples_of_9(self):
        self.assertEqual(laid(EXAMPLE, ("days", "oldest")), FIRST)
        self.assertEqual(laid(EXAMPLE, ("entered", "oldest")), [(0, 2, 10), (1, 2, 5), (1, 3, 4)])
        self.assertEqual(laid(EXAMPLE, ("days", "newest")), [(0, 2, 5), (0, 3, 4), (1, 2, 10)])

    def test_a_bill_takes_the_oldest_waiting_money(self):
        account = (("pay", 5, 4), ("pay", 2, 3), ("bill", 6, 5))
        for manner in MANNERS:
            self.assertEqual(laid(account, manner), [(2, 0, 2), (2, 1, 3)])

    def test_the_four_choices(self):
        account = (("bill", 3, 4), ("bill", 1, 6), ("bill", 2, 9), ("bill", 4, 4), ("bill", 5, 9), ("pay", 6, 11))
        for sequence in ("days", "entered"):
            self.assertEqual(laid(account, (sequence, "oldest")), [(1, 5, 6), (2, 5, 5)])
            self.assertEqual(laid(account, (sequence, "newest")), [(3, 5, 2), (4, 5, 9)])
            self.assertEqual(laid(account, (sequence, "greatest")), [(2, 5, 9), (4, 5, 2)])
            self.assertEqual(laid(account, (sequence, "least")), [(0, 5, 4), (1, 5, 3), (3, 5, 4)])

    def test_the_open_sum_counts_not_the_bill_s_own(self):
        account = (("bill", 1, 9), ("bill", 2, 6), ("named", 3, 5, 0), ("pay", 4, 1))
        self.assertEqual(laid(account, ("days", "greatest")), [(0, 2, 5), (1, 3, 1)])
        self.assertEqual(laid(account, ("days", "least")), [(0, 2, 5), (0, 3, 1)])

    def test_a_named_payment_goes_to_its_bill_first_and_then_by_the_choice(self):
        account = (("bill", 1, 5), ("bill", 2, 4), ("bill", 3, 6), ("named", 4, 7, 1))
        self.assertEqual(laid(account, ("days", "oldest")), [(0, 3, 3), (1, 3, 4)])
        self.assertEqual(laid(account, ("days", "newest")), [(1, 3, 4), (2, 3, 3)])
        self.assertEqual(laid(account, ("entered", "greatest")), [(1, 3, 4), (2, 3, 3)])
        self.assertEqual(laid(account, ("entered", "least")), [(0, 3, 3), (1, 3, 4)])

    def test_a_named_bill_that_comes_later_gets_no_money_by_name(self):
        account = (("bill", 1, 5), ("named", 4, 7, 2), ("bill", 2, 4))
        self.assertEqual(laid(account, ("entered", "oldest")), [(0, 1, 5), (2, 1, 2)])
        self.assertEqual(laid(account, ("days", "oldest")), [(0, 1, 3), (2, 1, 4)])
        same_day = (("bill", 1, 5), ("named", 2, 7, 2), ("bill", 2, 4))
        self.assertEqual(laid(same_day, ("days", "oldest")), [(0, 1, 5), (2, 1, 2)])

    def test_a_named_bill_that_is_paid_off(self):
        account = (("bill", 1, 5), ("bill", 2, 4), ("pay", 3, 5), ("named", 4, 3, 0))
        self.assertEqual(laid(account, OLDEST), [(0, 2, 5), (1, 3, 3)])

    def test_no_pairs(self):
        for account in ((), (("struck",),), (("bill", 1, 2), ("bill", 1, 3)), (("pay", 1, 2), ("struck",))):
            for manner in MANNERS:
                self.assertEqual(laid(account, manner), [])

    def test_sums_up_to_10_to_the_30_and_long_days(self):
        account = (("bill", HUGE_DAY, HUGE_SUM), ("pay", -HUGE_DAY, 1), ("pay", HUGE_DAY, HUGE_SUM))
        for manner in MANNERS:
            self.assertEqual(laid(account, manner), [(0, 1, 1), (0, 2, HUGE_SUM - 1)])

    def test_wrong_arguments(self):
        self.assertRaises(InvalidAccount, laid, list(EXAMPLE), ("days",))
        self.assertRaises(InvalidManner, laid, EXAMPLE, ["days", "oldest"])


class SumsTest(unittest.TestCase):
    def test_open_and_waiting_sums_of_the_examples(self):
        self.assertEqual(opens(EXAMPLE, OLDEST), [0, 1])
        self.assertEqual(opens(EXAMPLE, ("days", "newest")), [1, 0])
        self.assertEqual(waits(EXAMPLE, OLDEST), [0, 0])
        self.assertEqual(opens(EXAMPLE[:2], OLDEST), [10, 10])
        self.assertEqual(waits(EXAMPLE[2:], OLDEST), [4, 15])
        self.assertEqual((opens((), OLDEST), waits((), OLDEST)), ([], []))

    def test_they_are_what_the_laying_leaves_along_the_line(self):
        for seed in range(40):
            account = any_account(seed, 12)
            for manner in MANNERS:
                left = {index: account[index][2] for index in line(account)}
                for bill, payment, much in laid(account, manner):
                    left[bill] -= much
                    left[payment] -= much
                self.assertEqual(opens(account, manner), [left[bill] for bill in bills_of(account)])
                self.assertEqual(waits(account, manner), [left[payment] for payment in payments_of(account)])


class OverlapsTest(unittest.TestCase):
    def test_the_example_and_edges(self):
        self.assertEqual(overlaps(EXAMPLE), FIRST)
        self.assertEqual(overlaps(()), [])
        self.assertEqual(overlaps((("bill", 1, 5), ("struck",))), [])
        touching = (("bill", 1, 5), ("bill", 2, 5), ("pay", 1, 5), ("pay", 2, 5))
        self.assertEqual(overlaps(touching), [(0, 2, 5), (1, 3, 5)])

    def test_named_payments_are_refused(self):
        self.assertRaises(InvalidAccount, overlaps, MIXED)
        self.assertRaises(InvalidAccount, overlaps, (("bill", 1, 1), ("named", 1, 1, 0)))
        self.assertRaises(InvalidAccount, overlaps, [])


class PairsOfOneTest(unittest.TestCase):
    def test_of_the_examples(self):
        self.assertEqual(payers(EXAMPLE, OLDEST, 0), [(3, 4), (2, 6)])
        self.assertEqual(payers(EXAMPLE, OLDEST, 1), [(2, 9)])
        self.assertEqual(paid_by(EXAMPLE, OLDEST, 2), [(0, 6), (1, 9)])
        self.assertEqual(paid_by(EXAMPLE, OLDEST, 3), [(0, 4)])
        self.assertEqual(payers(EXAMPLE[:2], OLDEST, 0), [])

    def test_bills_along_the_line(self):
        account = (("bill", 9, 3), ("bill", 1, 3), ("bill", 5, 3), ("pay", 10, 8))
        self.assertEqual(paid_by(account, OLDEST, 3), [(1, 3), (2, 3), (0, 2)])
        self.assertEqual(paid_by(account, ("days", "newest"), 3), [(1, 2), (2, 3), (0, 3)])

    def test_against_the_laying(self):
        for seed in range(30):
            account = any_account(seed, 12)
            for manner in MANNERS:
                laying = laid(account, manner)
                for bill in bills_of(account):
                    rows = [(p, much) for p in payments_of(account) for b, q, much in laying if (b, q) == (bill, p)]
                    self.assertEqual(payers(account, manner, bill), rows)
                for payment in payments_of(account):
                    rows = [(b, much) for b in bills_of(account) for c, p, much in laying if (c, p) == (b, payment)]
                    self.assertEqual(paid_by(account, manner, payment), rows)

    def test_indexes_of_other_words(self):
        self.assertRaises(InvalidBill, payers, MIXED, OLDEST, 1)
        self.assertRaises(InvalidBill, payers, MIXED, OLDEST, 2)
        self.assertRaises(InvalidPayment, paid_by, MIXED, OLDEST, 0)
        self.assertRaises(InvalidPayment, paid_by, MIXED, OLDEST, 2)
        self.assertEqual(paid_by(MIXED, OLDEST, 3), [(4, 3)])


class MovedTest(unittest.TestCase):
    def test_pairs_that_come_go_and_change(self):
        self.assertEqual(moved(EXAMPLE, EXAMPLE, OLDEST), [])
        self.assertEqual(moved((), EXAMPLE, OLDEST), [(0, 2, 0, 6), (0, 3, 0, 4), (1, 2, 0, 9)])
        self.assertEqual(moved(EXAMPLE, (), OLDEST), [(0, 2, 6, 0), (0, 3, 4, 0), (1, 2, 9, 0)])
        self.assertEqual(moved(EXAMPLE, struck(EXAMPLE, 3), OLDEST), [(0, 2, 6, 10), (0, 3, 4, 0), (1, 2, 9, 5)])
        self.assertEqual(moved(EXAMPLE, changed(EXAMPLE, 2, 4, 16), OLDEST), [(1, 2, 9, 10)])
        self.assertEqual(moved((), (), OLDEST), [])

    def test_pairs_go_by_indexes_alone(self):
        other = (("pay", 1, 3), ("bill", 1, 2), ("pay", 1, 1), ("bill", 5, 7))
        self.assertEqual(moved(EXAMPLE, other, OLDEST), [
            (0, 2, 6, 0), (0, 3, 4, 0), (1, 0, 0, 2), (1, 2, 9, 0), (3, 0, 0, 1), (3, 2, 0, 1)])

    def test_against_both_layings(self):
        for seed in range(30):
            one, two = any_account(seed, 10), plain_account(seed + 500, 11)
            for manner in MANNERS:
                before = {row[:2]: row[2] for row in laid(one, manner)}
                after = {row[:2]: row[2] for row in laid(two, manner)}
                rows = [(*k, before.get(k, 0), after.get(k, 0)) for k in sorted(set(before) | set(after))]
                self.assertEqual(moved(one, two, manner), [row for row in rows if row[2] != row[3]])


if __name__ == "__main__":
    unittest.main()
