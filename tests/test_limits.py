"""[18] to [21] at the limits of use: each answer in a small part of a second. (Standing accounts: tests/test_for_ever.py.)"""

import time
import unittest

from oldestbills import closings
from oldestbills import latecomers
from oldestbills import shows
from oldestbills.closings import Journal
from tests.helpers import HUGE_SUM
from tests.helpers import MANNERS
from tests.helpers import any_account
from tests.helpers import plain_account
from tests.kinds import any_history
from tests.slow_journal import balance_on


def alive(account, word):
    return [index for index, entry in enumerate(account) if entry[0] == word]


class LimitsTest(unittest.TestCase):
    def soon(self, call, *told):
        """The answer of a call, which comes in less than a second even where the machine is slow."""
        begin = time.perf_counter()
        answer = call(*told)
        self.assertLess(time.perf_counter() - begin, 1, call.__name__)
        return answer

    def test_forty_entries(self):
        for seed in range(8):
            plain = plain_account(seed, 40, days=2000000, most=HUGE_SUM)
            bill, payment = alive(plain, "bill")[-1], alive(plain, "pay")[-1]
            self.soon(latecomers.late_range, plain, bill, payment, HUGE_SUM, HUGE_SUM)
            self.soon(latecomers.firm, plain, bill, payment)
            self.soon(latecomers.late_for, plain, bill, payment, 0)
            self.soon(latecomers.late_open_range, plain, bill, HUGE_SUM, HUGE_SUM)
            self.soon(latecomers.fixed_pairs, plain, 0)
            self.soon(latecomers.moved_by, any_account(seed, 39), MANNERS[seed], ("pay", 0, 99))
            for call in (closings.least_account, lambda account: closings.same_balance(account, account[::-1])):
                self.soon(call, plain)

    def test_twenty_bills_and_shows(self):
        for seed in range(8):
            plain = plain_account(seed, 40, days=2000000, most=HUGE_SUM)
            bills = tuple(sorted([plain[index] for index in alive(plain, "bill")], key=lambda entry: entry[1]))[:20]
            payments = tuple([plain[index] for index in alive(plain, "pay")])[:20]
            days = sorted([entry[1] for entry in bills + payments])[-20:]
            told = self.soon(shows.shows_of, bills + payments, days)
            for call in (shows.is_shows, shows.show_bar, shows.paid_ranges, shows.between_ranges, shows.payments_for):
                self.soon(call, bills, told)

    def test_sixty_deeds_and_twelve_reports(self):
        entered = tuple([("bill" if k % 2 else "pay", 90 + k, HUGE_SUM + k) for k in range(48)])
        closed = entered + tuple([("close", 100 + k) for k in range(12)])
        for history in [closed] + [any_history(seed, 60, days=2000000, most=HUGE_SUM) for seed in range(8)]:
            for call in (
                closings.is_history, closings.true_account, closings.journal, closings.origins, closings.closed_day,
                closings.reports, closings.late_days, closings.moved_entries,
            ):
                self.soon(call, history)
            self.soon(self.led_and_taken_back, history)

    def led_and_taken_back(self, history):
        live = Journal()
        for deed in history:
            getattr(live, deed[0])(*deed[1:])
        self.assertEqual(live.twin(), live)
        while len(live):
            live.undo()

    def test_twelve_shown_balances(self):
        plain = tuple([("bill" if k % 2 else "pay", k * 37 % 40, 1 + k % 3) for k in range(40)])
        shown = tuple([(3 * k, balance_on(plain[:3 * k], 3 * k)) for k in range(12)])
        self.assertIsNotNone(self.soon(closings.closings_back, plain, shown))
        self.assertIsNotNone(self.soon(closings.counts_back, plain, shown))
        self.soon(closings.first_count, plain, 20, 9)


if __name__ == "__main__":
    unittest.main()
