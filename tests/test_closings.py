"""[21], C1 to C6: histories and their journals, against a slow journal; balances, and reports told back."""

import itertools
import unittest

from oldestbills.closings import balance
from oldestbills.closings import closed_day
from oldestbills.closings import closings_back
from oldestbills.closings import counts_back
from oldestbills.closings import first_count
from oldestbills.closings import is_history
from oldestbills.closings import journal
from oldestbills.closings import late_days
from oldestbills.closings import least_account
from oldestbills.closings import moved_entries
from oldestbills.closings import origins
from oldestbills.closings import reports
from oldestbills.closings import same_balance
from oldestbills.closings import true_account
from oldestbills.days import aged
from oldestbills.days import owed
from oldestbills.days import waiting
from oldestbills.entries import is_account
from oldestbills.errors import InvalidAccount
from oldestbills.errors import InvalidDay
from oldestbills.errors import InvalidHistory
from oldestbills.errors import InvalidReports
from oldestbills.errors import InvalidSum
from oldestbills.layings import laid
from tests.helpers import EXAMPLE
from tests.helpers import HUGE_DAY
from tests.helpers import HUGE_SUM
from tests.helpers import MIXED
from tests.helpers import Numbers
from tests.helpers import OLDEST
from tests.helpers import any_account
from tests.helpers import plain_account
from tests.kinds import COUNTED
from tests.kinds import HISTORY
from tests.kinds import ODD_HISTORIES
from tests.kinds import ODD_SHOWN
from tests.kinds import SHOWN
from tests.kinds import any_history
from tests.slow_journal import Slow
from tests.slow_journal import balance_of
from tests.slow_journal import balance_on
from tests.slow_journal import days_about
from tests.slow_journal import past_of

PLAIN_WORDS = ("bill", "pay", "bill", "pay", "close")
OF_HISTORIES = (true_account, journal, origins, closed_day, reports, late_days, moved_entries)


def histories(many=150, words=None):
    for seed in range(many):
        told = {} if words is None else {"words": words}
        yield any_history(seed, seed % 30, days=4 + seed % 20, most=1 + seed % 9, **told)


def any_counted(seed):
    """An account without names and struck entries."""
    return any_account(seed, seed % 9, days=1 + seed % 5, most=1 + seed % 3, words=("bill", "pay"))


class IsHistoryTest(unittest.TestCase):
    def test_histories(self):
        for value in (
            (), HISTORY, (("close", 0),), (("close", -HUGE_DAY), ("close", HUGE_DAY)), (("bill", HUGE_DAY, HUGE_SUM),),
            (("pay", 1, 1), ("change", 0, 1, 1), ("change", 0, -5, 2), ("strike", 0), ("pay", 1, 1), ("strike", 1)),
        ):
            self.assertIs(is_history(value), True, value)
        for history in histories():
            self.assertIs(is_history(history), True)
        self.assertIs(is_history(tuple([("bill", 1, 1), ("close", 1)] + [("pay", 1, 1)] * 600)), True)

    def test_values_that_are_none(self):
        for value in ODD_HISTORIES:
            self.assertIs(is_history(value), False, value)
            for call in OF_HISTORIES:
                self.assertRaises(InvalidHistory, call, value)


class JournalTest(unittest.TestCase):
    def test_the_example(self):
        self.assertEqual(true_account(HISTORY), (("struck",), ("pay", 3, 4)))
        self.assertEqual(journal(HISTORY), (("bill", 1, 10), ("pay", 6, 4), ("pay", 6, 10)))
        self.assertEqual(origins(HISTORY), [("post", 0), ("post", 1), ("reversal", 0)])
        self.assertEqual(reports(HISTORY), [(5, 10, [(0, 10)])])
        self.assertEqual(late_days(HISTORY), [(1, -10), (3, -14), (6, 0)])
        self.assertEqual((closed_day(HISTORY), moved_entries(HISTORY)), (5, [1]))

    def test_the_empty_history_and_no_closed_day(self):
        self.assertEqual((true_account(()), journal(()), origins(()), reports(())), ((), (), [], []))
        self.assertEqual((closed_day(()), late_days(()), moved_entries(())), (None, [], []))
        history = (("bill", 1, 10), ("change", 0, 2, 7), ("pay", 9, 1), ("strike", 1))
        self.assertEqual(true_account(history), (("bill", 2, 7), ("struck",)))
        self.assertEqual(journal(history), (("struck",), ("bill", 2, 7), ("struck",)))
        self.assertEqual(origins(history), [("post", 0), ("post", 0), ("post", 1)])
        self.assertEqual((late_days(history), moved_entries(history)), ([], []))

    def test_posting_days_about_the_closed_day(self):
        history = (("close", 5), ("bill", 4, 1), ("bill", 5, 1), ("bill", 6, 1), ("pay", -9, 1))
        self.assertEqual(journal(history), (("bill", 6, 1), ("bill", 6, 1), ("bill", 6, 1), ("pay", 6, 1)))
        self.assertEqual(moved_entries(history), [0, 1, 3])
        self.assertEqual(reports(history), [(5, 0, [])])

    def test_a_late_post_is_struck_until_its_day_in_the_journal_is_closed(self):
        history = (("close", 5), ("bill", 1, 3), ("strike", 0))
        self.assertEqual(journal(history), (("struck",),))
        history = (("close", 5), ("bill", 1, 3), ("close", 6), ("strike", 0))
        self.assertEqual(journal(history), (("bill", 6, 3), ("pay", 7, 3)))
        self.assertEqual(origins(history), [("post", 0), ("reversal", 0)])
        history = (("pay", 1, 3), ("close", 1), ("change", 0, 1, 4), ("change", 0, 1, 5), ("close", 2), ("strike", 0))
        self.assertEqual(journal(history), (("pay", 1, 3), ("bill", 2, 3), ("struck",), ("pay", 2, 5), ("bill", 3, 5)))
        self.assertEqual(origins(history), [("post", 0), ("reversal", 0), ("post", 0), ("post", 0), ("reversal", 0)])
        self.assertEqual(reports(history), [(1, -3, []), (2, -5, [])])

    def test_against_a_slow_journal(self):
        reversed_ones = 0
        for history in histories():
            slow = Slow(history)
            self.assertEqual(true_account(history), tuple(slow.truth))
            self.assertEqual(journal(history), slow.entries())
            self.assertEqual(origins(history), slow.roots())
            self.assertEqual(closed_day(history), slow.closed)
            self.assertEqual(reports(history), slow.reports)
            self.assertTrue(is_account(true_account(history)) and is_account(journal(history)))
            reversed_ones += len([1 for root in slow.roots() if root[0] == "reversal"])
            moved = [
                index for index, entry in enumerate(slow.truth)
                if entry[0] != "struck" and slow.journal[slow.post_of[index]][0][1] != entry[1]
            ]
            self.assertEqual(moved_entries(history), moved)
        self.assertGreater(reversed_ones, 50)

    def test_late_days_against_each_day(self):
        for history in histories():
            truth, led = true_account(history), journal(history)
            gaps = {day: balance_on(truth, day) - balance_on(led, day) for day in days_about(truth, led)}
            told = [(day, gaps[day]) for day in gaps if gaps[day] != gaps.get(day - 1, 0)]
            self.assertEqual(late_days(history), told)

    def test_at_the_limits_of_use(self):
        for seed in range(6):
            history = any_history(seed, 60, days=2000000, most=HUGE_SUM)
            slow = Slow(history)
            self.assertEqual((journal(history), reports(history)), (slow.entries(), slow.reports))
        closes = tuple([("close", 100 + k) for k in range(12)])
        history = tuple([("bill", 90 + k, HUGE_SUM + k) for k in range(48)]) + closes
        self.assertEqual(reports(history), Slow(history).reports)


class FactsTest(unittest.TestCase):
    def test_c1_what_was_reported_stays(self):
        for history in histories(60):
            whole = journal(history)
            for many, deed in enumerate(history):
                if deed[0] == "close":
                    then = journal(history[:many + 1])
                    for day in (deed[1], deed[1] - 1, deed[1] - 3):
                        rows = [row for row in enumerate(past_of(then, day)) if row[1] != ("struck",)]
                        now = [row for row in enumerate(past_of(whole, day)) if row[1] != ("struck",)]
                        self.assertEqual(rows, now)

    def test_c2_behind_the_closed_day_the_balances_are_the_same(self):
        for history in histories():
            truth, led = true_account(history), journal(history)
            for day in days_about(truth, led):
                if closed_day(history) is None or day > closed_day(history):
                    self.assertEqual(balance(truth, day), balance(led, day))
            then = [true_account(history[:many]) for many, deed in enumerate(history) if deed[0] == "close"]
            for report, account in zip(reports(history), then):
                self.assertEqual(report[1], balance(account, report[0]))

    def test_c3_late_entries_make_debts_look_younger(self):
        for history in histories(words=PLAIN_WORDS):
            truth, led = true_account(history), journal(history)
            for day in days_about(truth, led)[::2]:
                if closed_day(history) is None or day > closed_day(history):
                    for age in range(-2, 20, 3):
                        self.assertLessEqual(aged(led, OLDEST, day, (age,))[1], aged(truth, OLDEST, day, (age,))[1])

    def test_c4_pairs_differ_by_late_sums_at_most(self):
        for history in histories(words=PLAIN_WORDS):
            truth, led = true_account(history), journal(history)
            self.assertEqual([row[2] for row in truth], [row[2] for row in led])
            late = sum([truth[index][2] for index in moved_entries(history)])
            one, two = [{row[:2]: row[2] for row in laid(account, OLDEST)} for account in (truth, led)]
            for pair in set(one) | set(two):
                self.assertLessEqual(abs(one.get(pair, 0) - two.get(pair, 0)), late)


class BalanceTest(unittest.TestCase):
    def test_balance(self):
        self.assertEqual([balance(EXAMPLE, day) for day in range(6)], [0, 10, 6, 16, 1, 1])
        self.assertEqual(balance((), 3), 0)
        self.assertEqual([balance(EXAMPLE[2:], day) for day in (1, 2, HUGE_DAY)], [0, -4, -19])
        for seed in range(40):
            account = any_account(seed, 14)
            for day in days_about(account):
                told = balance(account, day)
                self.assertEqual(told, balance_on(account, day))
                self.assertEqual((owed(account, day), waiting(account, day)), (max(0, told), max(0, -told)))

    def test_least_account_by_hand(self):
        account = (("bill", 1, 10), ("pay", 3, 6), ("pay", 1, 4))
        self.assertEqual(least_account(account), (("bill", 1, 6), ("pay", 3, 6)))
        self.assertEqual(least_account(()), ())
        self.assertEqual(least_account((("struck",), ("bill", 1, 4), ("named", 1, 4, 1))), ())
        self.assertEqual(least_account(MIXED), (("bill", 1, 11), ("pay", 2, 4), ("pay", 5, 3), ("bill", 9, 2)))

    def test_c5_against_all_small_accounts(self):
        entries = [(word, day, much) for word in ("bill", "pay") for day in (0, 1) for much in (1, 2, 3)]
        entries += [("struck",), ("named", 1, 1, 0)]
        rows = [rows for many in range(4) for rows in itertools.product(entries, repeat=many)]
        accounts = [account for account in rows if is_account(account)]
        least = {}
        for account in accounts:
            least.setdefault(tuple([balance_on(account, day) for day in (0, 1)]), []).append(account)
        for same in least.values():
            found = {least_account(account) for account in same}
            self.assertEqual(len(found), 1)
            told = found.pop()
            if max([entry[2] for entry in told], default=0) > 3:
                continue
            fewest = min(map(len, same))
            self.assertEqual(len(told), fewest)
            plain = [row for row in same if len(row) == fewest and {entry[0] for entry in row} <= {"bill", "pay"}]
            self.assertEqual([row for row in plain if [entry[1] for entry in row] == sorted({e[1] for e in row})], [told])

    def test_same_balance(self):
        found = []
        for seed in range(80):
            one, two = any_account(seed, seed % 4, days=2, most=2), any_account(seed + 900, seed % 3, days=2, most=2)
            told = all([balance_on(one, day) == balance_on(two, day) for day in days_about(one, two)])
            self.assertIs(same_balance(one, two), told)
            self.assertIs(same_balance(one, least_account(one)), True)
            self.assertIs(same_balance(one + (("bill", 3, 1),), one), False)
            found.append(told)
        self.assertGreater(found.count(True), 3)
        self.assertIs(same_balance((), (("bill", 1, 2), ("pay", 1, 2))), True)

    def test_wrong_arguments(self):
        self.assertRaises(InvalidDay, balance, EXAMPLE, True)
        self.assertRaises(InvalidAccount, balance, None, True)
        self.assertRaises(InvalidAccount, least_account, list(EXAMPLE))
        self.assertRaises(InvalidAccount, same_balance, EXAMPLE, None)
        self.assertRaises(InvalidAccount, same_balance, None, EXAMPLE)


class CountsTest(unittest.TestCase):
    def test_the_example(self):
        self.assertEqual(closings_back(COUNTED, SHOWN), (1, 3))
        self.assertEqual(counts_back(COUNTED, SHOWN), [[1, 2], [3]])
        self.assertEqual(first_count(COUNTED, 2, 5), 1)

    def test_edges(self):
        self.assertEqual((closings_back((), ()), counts_back((), ())), ((), []))
        self.assertEqual((closings_back(COUNTED, ()), counts_back(COUNTED, ())), ((), []))
        self.assertEqual((closings_back((), ((1, 0),)), counts_back((), ((1, 0), (2, 0)))), ((0,), [[0], [0]]))
        self.assertEqual((closings_back((), ((1, 1),)), counts_back((), ((1, 0), (2, 1)))), (None, None))
        self.assertIsNone(closings_back(COUNTED, ((2, 15), (4, 6))))
        self.assertIsNone(counts_back(COUNTED, ((2, 15), (4, 6))))
        self.assertEqual(counts_back(COUNTED, ((-9, 0), (2, 15))), [[0, 1, 2, 3], [3]])

    def test_c6_against_all_explanations(self):
        found = []
        for seed in range(200):
            plain = any_counted(seed)
            numbers = Numbers(seed)
            days = sorted({numbers.below(6) - 3 for _ in range(seed % 4)})
            entered = sorted([numbers.below(len(plain) + 1) for _ in days])
            shown = tuple([(day, balance_on(plain[:many], day)) for day, many in zip(days, entered)])
            if seed % 3 == 0:
                shown = tuple([(day, much + numbers.below(2)) for day, much in shown])
            told = [
                row for row in itertools.product(range(len(plain) + 1), repeat=len(shown))
                if list(row) == sorted(row)
                and all([balance_on(plain[:many], day) == much for many, (day, much) in zip(row, shown)])
            ]
            self.assertEqual(closings_back(plain, shown), min(told, default=None))
            columns = [sorted(set(column)) for column in zip(*told)] if shown else []
            self.assertEqual(counts_back(plain, shown), columns if told else None)
            found.append(len(told))
        self.assertGreater(found.count(0), 15)
        self.assertGreater(len([many for many in found if many > 3]), 30)

    def test_first_count(self):
        self.assertEqual([first_count(COUNTED, 2, most) for most in (0, 4, 5, 14, 15, HUGE_SUM)], [3, 3, 1, 1, 0, 0])
        self.assertEqual([first_count(COUNTED, 0, 0), first_count((), 0, 0), first_count((), 9, 9)], [0, 0, 0])
        self.assertEqual(first_count((("bill", 1, 5), ("struck",), ("pay", 1, 5), ("struck",)), 1, 5), 1)
        for seed in range(60):
            plain = plain_account(seed, seed % 12)
            for day in (-9, -1, 0, 2, HUGE_DAY):
                for most in (0, 3, 9, 30):
                    sums = [sum([entry[2] for entry in past_of(plain[n:], day) if entry[0] != "struck"])
                            for n in range(len(plain) + 1)]
                    told = [n for n, total in enumerate(sums) if total <= most]
                    self.assertEqual(first_count(plain, day, most), told[0])

    def test_at_the_limits_of_use(self):
        plain = plain_account(7, 40, days=2000000, most=HUGE_SUM)
        plain = tuple([entry if entry[0] != "struck" else ("bill", 3, 1) for entry in plain])
        days = sorted({entry[1] for entry in plain})[::3][:12]
        shown = tuple([(day, balance_on(plain[:3 * many + 1], day)) for many, day in enumerate(days)])
        least = closings_back(plain, shown)
        rows = counts_back(plain, shown)
        self.assertEqual(least, tuple([row[0] for row in rows]))
        self.assertEqual([balance_on(plain[:n], day) for n, day in zip(least, days)], [much for _, much in shown])
        self.assertTrue(all([3 * many + 1 in row for many, row in enumerate(rows)]))
        self.assertEqual(first_count(plain, 10 ** 6, balance_of([("bill",) + entry[1:] for entry in plain])), 0)

    def test_wrong_arguments(self):
        for call in (closings_back, counts_back):
            for shown in ODD_SHOWN:
                self.assertRaises(InvalidReports, call, COUNTED, shown)
            for plain in (MIXED, COUNTED + (("struck",),), (("struck",),), list(COUNTED), None):
                self.assertRaises(InvalidAccount, call, plain, None)
        for most in (-1, True, None, "1", (1,), -HUGE_SUM):
            self.assertRaises(InvalidSum, first_count, COUNTED, 2, most)
        self.assertRaises(InvalidDay, first_count, COUNTED, True, -1)
        self.assertRaises(InvalidAccount, first_count, MIXED, True, -1)


if __name__ == "__main__":
    unittest.main()
