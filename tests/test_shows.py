"""[8], [19], F8: shows, against all small sums of payments."""

import itertools
import unittest

from oldestbills.entries import bills_of
from oldestbills.errors import InvalidAccount
from oldestbills.errors import InvalidBills
from oldestbills.errors import InvalidDay
from oldestbills.errors import InvalidShows
from oldestbills.layings import opens
from oldestbills.shows import between_ranges
from oldestbills.shows import is_shows
from oldestbills.shows import paid_ranges
from oldestbills.shows import payments_for
from oldestbills.shows import show_bar
from oldestbills.shows import shows_of
from tests.helpers import HUGE_DAY
from tests.helpers import HUGE_SUM
from tests.helpers import MIXED
from tests.helpers import Numbers
from tests.helpers import OLDEST
from tests.helpers import any_account
from tests.helpers import plain_account
from tests.kinds import BILLS
from tests.kinds import ODD_BILLS
from tests.kinds import ODD_DAY_LISTS
from tests.kinds import ODD_SHOWS
from tests.kinds import SHOWS


def opens_on(entries, day):
    """The open sums as of a day of the bills up to it, along the line."""
    past = tuple([entry for entry in entries if entry[1] <= day])
    return tuple(opens(past, OLDEST))


def led_to(bills, payments, shows):
    """Whether the payments lead to the shows."""
    return all([opens_on(bills + tuple(payments), day) == shown for day, shown in shows])


def all_payments(bills, shows):
    """All small sums of payments up to each show: tuples that do not descend, beyond all bills by 2 at most."""
    most = sum([bill[2] for bill in bills]) + 2
    return itertools.combinations_with_replacement(range(most + 1), len(shows))


def paid_so(shows, paid):
    """Payments on the shows' days with which so much is paid as of each."""
    steps = [much - ahead for much, ahead in zip(paid, (0,) + paid)]
    return [("pay", day, step) for (day, _), step in zip(shows, steps) if step]


def told_bar(bills, shows):
    """[19]: the first bar, by its words; what is paid at the least is told by F8."""
    ahead = 0
    for at, (day, shown) in enumerate(shows):
        sums = [bill[2] for bill in bills if bill[1] <= day]
        for k in range(len(sums)):
            if shown[k] > sums[k]:
                return ("more", at, k)
        for k in range(len(sums)):
            for m in range(k + 1, len(sums)):
                if shown[k] and shown[m] < sums[m]:
                    return ("crossed", at, k, m)
        paid = sum(sums) - sum(shown)
        if any(shown) and paid < ahead:
            return ("less", at)
        ahead = paid
    return None


def small_bills():
    for days in ((), (0,), (1,), (0, 0), (0, 1), (0, 2), (0, 1, 1), (0, 1, 2)):
        for sums in itertools.product((1, 2), repeat=len(days)):
            yield tuple([("bill", day, much) for day, much in zip(days, sums)])


def small_shows(bills, days):
    """All shows on these days with open sums up to one more than the bills'."""
    rows = []
    for day in days:
        sums = [bill[2] for bill in bills if bill[1] <= day]
        rows.append([(day, shown) for shown in itertools.product(*[range(much + 2) for much in sums])])
    return itertools.product(*rows)


def small_cases():
    for bills in small_bills():
        for days in ((), (0,), (2,), (0, 1), (0, 2), (-1, 1), (0, 1, 2)):
            cases = list(small_shows(bills, days))
            for shows in cases[:: 1 + len(cases) // 12]:
                yield bills, shows


class IsShowsTest(unittest.TestCase):
    def test_shows(self):
        for shows in (
            (), SHOWS, ((0, ()),), ((-HUGE_DAY, ()), (0, ()), (4, (9, 9))), ((1, (0, 0)),), ((HUGE_DAY, (9, 0, HUGE_SUM)),),
        ):
            self.assertIs(is_shows(BILLS, shows), True)
        self.assertIs(is_shows((), ((3, ()),)), True)

    def test_values_that_are_none(self):
        for value in ODD_SHOWS:
            self.assertIs(is_shows(BILLS, value), False, value)
        for value in (((3, (0,)),), ((3, (None,)),)):
            self.assertIs(is_shows((), value), False)

    def test_bills_that_are_none(self):
        for bills in ODD_BILLS:
            for call in (is_shows, show_bar, paid_ranges, between_ranges, payments_for):
                self.assertRaises(InvalidBills, call, bills, None)
        for bills in ((), (("bill", 1, 1),) * 20, (("bill", -HUGE_DAY, HUGE_SUM), ("bill", HUGE_DAY, 1))):
            self.assertIs(is_shows(bills, ()), True)

    def test_shows_that_are_none(self):
        for call in (show_bar, paid_ranges, between_ranges, payments_for):
            for shows in ODD_SHOWS:
                self.assertRaises(InvalidShows, call, BILLS, shows)


class BarTest(unittest.TestCase):
    def test_each_bar(self):
        self.assertIsNone(show_bar(BILLS, SHOWS))
        self.assertEqual(show_bar(BILLS, ((1, (2, 4)),)), ("more", 0, 1))
        self.assertEqual(show_bar(BILLS, ((0, ()), (1, (5, 4)))), ("more", 1, 0))
        self.assertEqual(show_bar(BILLS, ((1, (1, 2)),)), ("crossed", 0, 0, 1))
        self.assertEqual(show_bar(BILLS, ((5, (0, 1, 2)),)), ("crossed", 0, 1, 2))
        self.assertEqual(show_bar(BILLS, ((5, (4, 0, 2)),)), ("crossed", 0, 0, 1))
        self.assertEqual(show_bar(BILLS, ((5, (4, 3, 2)),)), ("crossed", 0, 0, 2))
        self.assertEqual(show_bar(BILLS, ((1, (0, 1)), (2, (0, 2)))), ("less", 1))
        self.assertEqual(show_bar(BILLS, ((1, (0, 0)), (2, (0, 1)))), ("less", 1))
        self.assertIsNone(show_bar(BILLS, ((1, (0, 0)), (5, (0, 0, 6)))))

    def test_the_first_one_is_told(self):
        self.assertEqual(show_bar(BILLS, ((5, (5, 0, 7)), (6, (9, 9, 9)))), ("more", 0, 0))
        self.assertEqual(show_bar(BILLS, ((5, (1, 0, 7)),)), ("more", 0, 2))
        self.assertEqual(show_bar(BILLS, ((1, (0, 0)), (2, (1, 0)))), ("crossed", 1, 0, 1))
        self.assertEqual(show_bar(BILLS, ((1, (0, 0)), (2, (0, 1)), (5, (9, 9, 9)))), ("less", 1))

    def test_without_bills_and_without_shows(self):
        self.assertIsNone(show_bar((), ()))
        self.assertIsNone(show_bar((), ((1, ()), (2, ()))))
        self.assertEqual(paid_ranges((), ((1, ()), (2, ()))), [(0, None), (0, None)])
        self.assertEqual((paid_ranges(BILLS, ()), between_ranges(BILLS, ()), payments_for(BILLS, ())), ([], [], ()))
        self.assertEqual(payments_for((), ((1, ()),)), ())


class RangesTest(unittest.TestCase):
    def test_by_hand(self):
        self.assertEqual(paid_ranges(BILLS, SHOWS), [(2, 2), (6, 6), (7, 7)])
        self.assertEqual(between_ranges(BILLS, SHOWS), [(2, 2), (4, 4), (1, 1)])
        shows = ((1, (0, 0)), (5, (0, 0, 2)))
        self.assertEqual(paid_ranges(BILLS, shows), [(7, 11), (11, 11)])
        self.assertEqual(between_ranges(BILLS, shows), [(7, 11), (0, 4)])
        self.assertEqual(paid_ranges(BILLS, shows[:1]), [(7, None)])
        shows = ((1, (0, 0)), (2, (0, 0)), (5, (0, 0, 2)))
        self.assertEqual(paid_ranges(BILLS, shows), [(7, 11), (7, 11), (11, 11)])
        self.assertEqual(between_ranges(BILLS, shows), [(7, 11), (0, 4), (0, 4)])
        shows = ((0, ()), (1, (0, 0)), (5, (0, 0, 0)))
        self.assertEqual(paid_ranges(BILLS, shows), [(0, None), (7, None), (13, None)])
        self.assertEqual(between_ranges(BILLS, shows), [(0, None), (0, None), (0, None)])
        shows = ((1, (4, 3)), (5, (0, 0, 0)))
        self.assertEqual((paid_ranges(BILLS, shows), between_ranges(BILLS, shows)), ([(0, 0), (13, None)],) * 2)

    def test_f8_bars_and_ranges_against_all_payments(self):
        barred = 0
        for bills, shows in small_cases():
            most = sum([bill[2] for bill in bills]) + 2
            found = [paid for paid in all_payments(bills, shows) if led_to(bills, paid_so(shows, paid), shows)]
            bar = show_bar(bills, shows)
            self.assertEqual(bar, told_bar(bills, shows))
            self.assertIs(bar is None, found != [], (bills, shows))
            barred += bar is not None
            if bar is not None:
                self.assertIsNone(paid_ranges(bills, shows))
                self.assertIsNone(between_ranges(bills, shows))
                self.assertIsNone(payments_for(bills, shows))
                continue
            told = [(min(column), max(column)) for column in zip(*found)]
            told = [(least, greatest if greatest < most else None) for least, greatest in told]
            self.assertEqual(paid_ranges(bills, shows), told)
            steps = [[much - ahead for much, ahead in zip(paid, (0,) + paid)] for paid in found]
            columns = list(zip(*steps))
            ends = [None if end is None else max(column) for (_, end), column in zip(told, columns)]
            self.assertEqual(between_ranges(bills, shows), [(min(column), end) for column, end in zip(columns, ends)])
            fewest = min([len(row) - row.count(0) for row in steps])
            payments = payments_for(bills, shows)
            self.assertTrue(led_to(bills, payments, shows))
            self.assertEqual(len(payments), fewest)
        self.assertGreater(barred, 200)


class PaymentsForTest(unittest.TestCase):
    def check(self, bills, shows):
        payments = payments_for(bills, shows)
        self.assertIs(type(payments), tuple)
        for entry in payments:
            self.assertEqual((type(entry), entry[0], len(entry)), (tuple, "pay", 3))
            self.assertGreaterEqual(entry[2], 1)
        self.assertTrue(led_to(bills, payments, shows))
        return len(payments)

    def test_by_hand(self):
        self.assertEqual(self.check(BILLS, SHOWS), 3)
        self.assertEqual(self.check(BILLS, ((1, (0, 0)), (5, (0, 0, 2)))), 1)
        self.assertEqual(self.check(BILLS, ((0, ()), (1, (0, 0)), (5, (0, 0, 0)))), 1)
        self.assertEqual(self.check(BILLS, ((1, (4, 3)), (5, (4, 3, 6)))), 0)
        self.assertIsNone(payments_for(BILLS, ((1, (0, 0)), (2, (0, 1)))))

    def test_at_the_limits_of_use(self):
        for seed in range(20):
            plain = plain_account(seed, 40, days=60, most=HUGE_SUM)
            bills = tuple([plain[index] for index in bills_of(plain)])
            days = sorted({entry[1] for entry in plain if entry[0] != "struck"})[:20]
            shows = shows_of(plain, days)
            self.assertTrue(is_shows(bills, shows))
            many = self.check(bills, shows)
            self.assertLessEqual(many, len(days))
            self.assertEqual(shows_of(bills + payments_for(bills, shows), days), shows)
            paid = [sum([entry[2] for entry in plain if entry[0] == "pay" and entry[1] <= day]) for day in days]
            for much, (least, greatest) in zip(paid, paid_ranges(bills, shows)):
                self.assertTrue(least <= much and (greatest is None or much <= greatest))
            for much, ahead, (least, greatest) in zip(paid, [0] + paid, between_ranges(bills, shows)):
                self.assertTrue(least <= much - ahead and (greatest is None or much - ahead <= greatest))


class ShowsOfTest(unittest.TestCase):
    def test_by_hand(self):
        plain = (("bill", 5, 6), ("pay", 3, 6), ("bill", 1, 4), ("struck",), ("bill", 1, 3), ("pay", 1, 2), ("pay", 6, 1))
        self.assertEqual(shows_of(plain, [1, 3, 5, 6]), ((1, (2, 3)), (3, (0, 0)), (5, (0, 0, 5)), (6, (0, 0, 4))))
        self.assertEqual(shows_of(plain, [-HUGE_DAY, HUGE_DAY]), ((-HUGE_DAY, ()), (HUGE_DAY, (0, 0, 4))))
        self.assertEqual((shows_of(plain, []), shows_of((), [1]), shows_of((), [])), ((), ((1, ()),), ()))

    def test_against_the_open_sums(self):
        for seed in range(40):
            plain = plain_account(seed, seed % 15)
            days = sorted({Numbers(seed + k).below(12) - 5 for k in range(6)})
            entries = tuple([entry for entry in plain if entry[0] != "struck"])
            self.assertEqual(shows_of(plain, days), tuple([(day, opens_on(entries, day)) for day in days]))
            bills = tuple([plain[index] for index in bills_of(plain)])
            self.assertIsNone(show_bar(bills, shows_of(plain, days)))

    def test_wrong_arguments(self):
        for days in ODD_DAY_LISTS:
            self.assertRaises(InvalidDay, shows_of, BILLS, days)
        self.assertRaises(InvalidAccount, shows_of, MIXED, None)
        self.assertRaises(InvalidAccount, shows_of, any_account(1, 9, words=("bill", "named")), [1])


if __name__ == "__main__":
    unittest.main()
