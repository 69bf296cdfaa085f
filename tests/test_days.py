"""[5], [13]: what is owed and what waits on each day."""

import sys
import unittest
import unittest.mock

from oldestbills import checks
from oldestbills.days import aged
from oldestbills.days import more_day
from oldestbills.days import never_more
from oldestbills.days import owed
from oldestbills.days import owed_days
from oldestbills.days import paid_day
from oldestbills.days import statement
from oldestbills.days import waiting
from oldestbills.entries import as_of
from oldestbills.entries import bills_of
from oldestbills.errors import InvalidAccount
from oldestbills.errors import InvalidBill
from oldestbills.errors import InvalidDay
from oldestbills.errors import InvalidEdges
from oldestbills.errors import InvalidManner
from oldestbills.layings import opens
from oldestbills.layings import waits
from tests.helpers import EXAMPLE
from tests.helpers import HUGE_DAY
from tests.helpers import HUGE_SUM
from tests.helpers import MANNERS
from tests.helpers import MIXED
from tests.helpers import OLDEST
from tests.helpers import any_account

DAYS = range(-6, 7)


class OwedTest(unittest.TestCase):
    def test_the_example_of_9(self):
        self.assertEqual(owed(EXAMPLE, 3), 16)
        self.assertEqual([owed(EXAMPLE, day) for day in (0, 1, 2, 3, 4, 5)], [0, 10, 6, 16, 1, 1])

    def test_waiting(self):
        account = (("pay", 1, 5), ("bill", 2, 3), ("struck",), ("bill", 4, 9))
        self.assertEqual([waiting(account, day) for day in (0, 1, 2, 3, 4)], [0, 5, 2, 2, 0])
        self.assertEqual([owed(account, day) for day in (0, 1, 2, 3, 4)], [0, 0, 0, 0, 7])

    def test_without_entries_and_on_long_days(self):
        self.assertEqual((owed((), 1), waiting((), 1)), (0, 0))
        self.assertEqual((owed((("struck",),), 1), waiting((("struck",),), 1)), (0, 0))
        account = (("bill", HUGE_DAY, HUGE_SUM), ("pay", HUGE_DAY + 1, 1))
        self.assertEqual([owed(account, HUGE_DAY + k) for k in (-1, 0, 1)], [0, HUGE_SUM, HUGE_SUM - 1])
        self.assertEqual(owed(account, -HUGE_DAY), 0)

    def test_they_are_the_open_and_the_waiting_sums_as_of_the_day(self):
        for seed in range(40):
            account = any_account(seed, 12)
            for day in DAYS:
                for manner in MANNERS:
                    self.assertEqual(owed(account, day), sum(opens(as_of(account, day), manner)))
                    self.assertEqual(waiting(account, day), sum(waits(as_of(account, day), manner)))

    def test_wrong_arguments(self):
        for call in (owed, waiting):
            self.assertRaises(InvalidAccount, call, [], None)
            self.assertRaises(InvalidDay, call, EXAMPLE, True)


class StatementTest(unittest.TestCase):
    def test_the_open_bills_along_the_line(self):
        self.assertEqual(statement(EXAMPLE, OLDEST, 3), [(0, 6), (1, 10)])
        self.assertEqual(statement(EXAMPLE, OLDEST, 4), [(1, 1)])
        self.assertEqual(statement(EXAMPLE, ("days", "newest"), 4), [(0, 1)])
        self.assertEqual(statement(EXAMPLE, OLDEST, 0), [])
        self.assertEqual(statement((), OLDEST, 0), [])
        self.assertEqual(statement((("bill", 9, 1), ("bill", 2, 5)), OLDEST, 9), [(1, 5), (0, 1)])

    def test_as_of_the_day_also_when_gone_through_as_entered(self):
        account = (("bill", 5, 9), ("pay", 2, 4), ("bill", 1, 7), ("bill", 2, 3))
        self.assertEqual(statement(account, ("entered", "newest"), 2), [(2, 3), (3, 3)])
        self.assertEqual(statement(account, ("entered", "newest"), 5), [(2, 7), (3, 3), (0, 5)])

    def test_against_the_open_sums(self):
        for seed in range(30):
            account = any_account(seed, 12)
            for day in DAYS:
                past = as_of(account, day)
                for manner in MANNERS:
                    rows = [row for row in zip(bills_of(past), opens(past, manner)) if row[1] > 0]
                    self.assertEqual(statement(account, manner, day), rows)


class PaidDayTest(unittest.TestCase):
    def test_of_the_example(self):
        self.assertEqual(paid_day(EXAMPLE, OLDEST, 0), 4)
        self.assertIsNone(paid_day(EXAMPLE, OLDEST, 1))
        self.assertIsNone(paid_day(EXAMPLE, ("days", "newest"), 0))
        self.assertEqual(paid_day(EXAMPLE, ("days", "newest"), 1), 4)

    def test_not_ahead_of_the_bill_s_own_day(self):
        self.assertEqual(paid_day((("pay", 1, 9), ("bill", 5, 9)), OLDEST, 1), 5)
        self.assertEqual(paid_day((("pay", 1, 8), ("bill", 5, 9), ("pay", 5, 1)), OLDEST, 1), 5)
        self.assertEqual(paid_day((("bill", -HUGE_DAY, 9), ("pay", HUGE_DAY, 9)), OLDEST, 0), HUGE_DAY)

    def test_the_least_day_from_its_own_on(self):
        for seed in range(40):
            account = any_account(seed, 12, most=5)
            for manner in MANNERS[:4]:
                for bill in bills_of(account):
                    days = [
                        day for day in range(account[bill][1], 7)
                        if bill not in [row[0] for row in statement(account, manner, day)]
                    ]
                    self.assertEqual(paid_day(account, manner, bill), min(days, default=None))

    def test_by_days_alone(self):
        for manner in MANNERS[4:]:
            self.assertRaises(InvalidManner, paid_day, EXAMPLE, manner, 0)
            self.assertRaises(InvalidManner, paid_day, EXAMPLE, manner, None)
        self.assertRaises(InvalidBill, paid_day, EXAMPLE, OLDEST, 2)
        self.assertRaises(InvalidAccount, paid_day, list(EXAMPLE), MANNERS[4], 0)


class AgedTest(unittest.TestCase):
    def test_the_example(self):
        self.assertEqual(aged(EXAMPLE, OLDEST, 3, ()), [16])
        self.assertEqual(aged(EXAMPLE, OLDEST, 3, (1,)), [10, 6])
        self.assertEqual(aged(EXAMPLE, OLDEST, 3, (0, 1, 2, 3)), [0, 10, 0, 6, 0])
        self.assertEqual(aged(EXAMPLE, OLDEST, 33, (30, 60)), [0, 1, 0])
        self.assertEqual(aged(EXAMPLE, OLDEST, 32, (30, 60)), [1, 0, 0])

    def test_edges_below_0_and_long_ones(self):
        self.assertEqual(aged(EXAMPLE, OLDEST, 1, (-5, 0)), [0, 0, 10])
        self.assertEqual(aged(EXAMPLE, OLDEST, 1, (-HUGE_DAY, HUGE_DAY)), [0, 10, 0])
        self.assertEqual(aged(EXAMPLE, OLDEST, HUGE_DAY, (HUGE_DAY - 3, HUGE_DAY)), [0, 1, 0])

    def test_without_open_bills(self):
        self.assertEqual(aged((), OLDEST, 1, ()), [0])
        self.assertEqual(aged((), OLDEST, 1, (1, 2)), [0, 0, 0])
        self.assertEqual(aged(EXAMPLE, OLDEST, 0, (1, 2)), [0, 0, 0])

    def test_against_the_statement(self):
        for seed in range(30):
            account = any_account(seed, 12)
            for edges in ((), (0,), (2,), (-1, 1, 2, 5)):
                bounds = [-100, *edges, 100]
                for day in DAYS:
                    for manner in MANNERS:
                        ages = [(day - account[bill][1], much) for bill, much in statement(account, manner, day)]
                        sums = [
                            sum([much for age, much in ages if low <= age < high])
                            for low, high in zip(bounds, bounds[1:])
                        ]
                        self.assertEqual(aged(account, manner, day, edges), sums)

    def test_edges_that_are_none(self):
        for edges in ([], [1], (1, 1), (2, 1), (True,), (1, "2"), None, 1):
            self.assertRaises(InvalidEdges, aged, EXAMPLE, OLDEST, 3, edges)


class OwedDaysTest(unittest.TestCase):
    def test_the_example(self):
        self.assertEqual(owed_days(EXAMPLE), [(1, 10), (2, 6), (3, 16), (4, 1)])

    def test_days_on_which_nothing_changes(self):
        self.assertEqual(owed_days(()), [])
        self.assertEqual(owed_days((("pay", 1, 5), ("bill", 2, 5), ("struck",))), [])
        self.assertEqual(owed_days((("bill", 1, 5), ("pay", 1, 5), ("bill", 2, 1))), [(2, 1)])
        self.assertEqual(owed_days((("bill", 1, 5), ("bill", 2, 4), ("pay", 2, 4), ("pay", 3, 9))), [(1, 5), (3, 0)])

    def test_against_each_day(self):
        for seed in range(60):
            account = any_account(seed, 14, most=3)
            rows = [(day, owed(account, day)) for day in DAYS if owed(account, day) != owed(account, day - 1)]
            self.assertEqual(owed_days(account), rows)


class ComparedTest(unittest.TestCase):
    def test_more_and_never_more(self):
        less = (("bill", 2, 10), ("pay", 3, 4), ("pay", 6, 6))
        more = (("bill", 1, 10), ("pay", 4, 4), ("bill", 5, 1))
        self.assertIs(never_more(less, more), True)
        self.assertIsNone(more_day(less, more))
        self.assertIs(never_more(more, less), False)
        self.assertEqual(more_day(more, less), 1)
        self.assertEqual(more_day(less + (("bill", 9, 8),), more), 9)

    def test_a_day_on_which_the_other_one_alone_has_entries(self):
        self.assertEqual(more_day((("bill", 1, 5),), (("bill", 1, 5), ("pay", 7, 1))), 7)

    def test_the_empty_account(self):
        self.assertIs(never_more((), ()), True)
        self.assertIs(never_more((), EXAMPLE), True)
        self.assertIs(never_more(EXAMPLE, ()), False)
        self.assertEqual(more_day(EXAMPLE, ()), 1)
        self.assertIs(never_more((("pay", 1, 1),), ()), True)

    def test_against_each_day(self):
        for seed in range(80):
            one, two = any_account(seed, 6, most=4), any_account(seed + 300, 8, most=4)
            days = [day for day in DAYS if owed(one, day) > owed(two, day)]
            self.assertEqual(more_day(one, two), min(days, default=None))
            self.assertIs(never_more(one, two), days == [])

    def test_wrong_accounts(self):
        for call in (never_more, more_day):
            self.assertRaises(InvalidAccount, call, None, ())
            self.assertRaises(InvalidAccount, call, MIXED, [])


def days_about(*accounts):
    """Each day of the accounts' entries, one less and one more."""
    days = {entry[1] for account in accounts for entry in account if entry[0] != "struck"}
    return sorted({day + step for day in days for step in (-1, 0, 1)})


def drawn_accounts():
    """Accounts of up to 40 entries: few days and many, small sums and great ones, most of them with named payments."""
    for seed in range(160):
        days, most = (1, 3, 12, 60, 2000000)[seed % 5], (1, 3, 9, HUGE_SUM)[seed % 4]
        yield any_account(seed, seed % 41, days, most)


def alternating(many):
    """Bill and pay in turn, each on a day of its own."""
    return tuple([("bill", d, d % 7 + 1) if d % 2 == 0 else ("pay", d, d % 5 + 1) for d in range(many)])


def steps_of(call, *arguments):
    """How many functions a call calls in all, builtin ones too."""
    events = []
    sys.setprofile(lambda frame, event, more: events.append(event))
    call(*arguments)
    sys.setprofile(None)
    return len([event for event in events if event in ("call", "c_call")])


class DrawnAccountsTest(unittest.TestCase):
    def test_the_drawn_accounts_have_all_that_is_to_be_tested(self):
        accounts = list(drawn_accounts())
        self.assertEqual(max(map(len, accounts)), 40)
        for word in ("named", "struck"):
            self.assertGreater(len([1 for account in accounts if word in [entry[0] for entry in account]]), 100)
        self.assertGreater(len([1 for account in accounts if len(account) > 3 * len(days_about(account))]), 20)

    def test_owed_days_against_each_day(self):
        for account in drawn_accounts():
            told = [
                (day, owed(account, day)) for day in days_about(account) if owed(account, day) != owed(account, day - 1)
            ]
            self.assertEqual(owed_days(account), told)

    def test_owed_and_waiting_against_the_sums_of_the_entries(self):
        for account in drawn_accounts():
            for day in days_about(account):
                past = [entry for entry in account if entry[0] != "struck" and entry[1] <= day]
                balance = sum([entry[2] if entry[0] == "bill" else -entry[2] for entry in past])
                self.assertEqual((owed(account, day), waiting(account, day)), (max(0, balance), max(0, -balance)))

    def test_more_day_and_never_more_against_each_day(self):
        accounts = list(drawn_accounts())
        found = []
        for step in (0, 1, 4, 5, 20, 33):
            for one, two in zip(accounts, accounts[step:]):
                days = [day for day in days_about(one, two) if owed(one, day) > owed(two, day)]
                self.assertEqual(more_day(one, two), min(days, default=None))
                self.assertIs(never_more(one, two), days == [])
                found.append(days == [])
        self.assertGreater(found.count(True), 50)
        self.assertGreater(found.count(False), 50)

    def test_an_account_that_owes_a_little_less_or_more(self):
        for account in drawn_accounts():
            for word, later in (("bill", 1), ("pay", 0)):
                for day in days_about(account)[::5]:
                    other = account + ((word, day, 1), ("bill" if word == "pay" else "pay", day + later, 1))
                    days = [at for at in days_about(account, other) if owed(other, at) > owed(account, at)]
                    self.assertEqual(more_day(other, account), min(days, default=None))
                    self.assertIs(never_more(other, account), days == [])

    def test_the_account_at_the_limit_of_use(self):
        account = alternating(40)
        told = [(day, owed(account, day)) for day in range(41) if owed(account, day) != owed(account, day - 1)]
        self.assertEqual(owed_days(account), told)
        self.assertIsNone(more_day(account, account))
        self.assertEqual(more_day(account + (("bill", 39, 1),), account), 39)


class LookedAtOnceTest(unittest.TestCase):
    def test_each_account_is_looked_at_once(self):
        account, other = MIXED, EXAMPLE
        calls = (
            (owed, account, 3), (waiting, account, 3), (statement, account, OLDEST, 3), (paid_day, account, OLDEST, 0),
            (aged, account, OLDEST, 3, (1,)), (owed_days, account), (never_more, account, other), (more_day, account, other),
        )
        for call, *told in calls:
            with unittest.mock.patch.object(checks, "fits_account", wraps=checks.fits_account) as looked:
                call(*told)
            looks = [looking.args[0] for looking in looked.call_args_list]
            self.assertEqual(looks, [part for part in told if part in (account, other)], call.__name__)

    def test_the_steps_grow_as_the_account_does(self):
        for call, many in ((owed_days, 1), (more_day, 2), (never_more, 2)):
            steps = [steps_of(call, *[alternating(size)] * many) for size in (40, 400)]
            self.assertLess(steps[1], 12 * steps[0], call.__name__)
        for call in (owed, waiting):
            steps = [steps_of(call, alternating(size), size) for size in (40, 400)]
            self.assertLess(steps[1], 12 * steps[0], call.__name__)


if __name__ == "__main__":
    unittest.main()
