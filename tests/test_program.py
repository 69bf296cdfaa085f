"""[9] over the whole program: functions, books, ledgers, journals, shows and the console answer alike for an account."""

import ast
import importlib
import pathlib
import unittest

from oldestbills.books import Book
from oldestbills.closings import Journal
from oldestbills.closings import balance
from oldestbills.closings import closings_back
from oldestbills.closings import counts_back
from oldestbills.closings import least_account
from oldestbills.closings import same_balance
from oldestbills.console import Console
from oldestbills.days import owed
from oldestbills.days import owed_days
from oldestbills.days import waiting
from oldestbills.entries import bills_of
from oldestbills.layings import laid
from oldestbills.layings import opens
from oldestbills.layings import overlaps
from oldestbills.ledgers import Ledger
from oldestbills.roughs import pair_range
from oldestbills.shows import payments_for
from oldestbills.shows import show_bar
from oldestbills.shows import shows_of
from oldestbills.words import read_account
from oldestbills.words import write_account
from oldestbills.words import write_manner
from tests.helpers import MANNERS
from tests.helpers import OLDEST
from tests.helpers import any_account
from tests.helpers import plain_account
from tests.kinds import any_history

PACKAGE = pathlib.Path(__file__).resolve().parent.parent / "oldestbills"
DAYS = range(-6, 7)

# The interface: the functions and classes of each module.
LISTED = {
    "errors": "BillError InvalidAccount InvalidRough InvalidManner InvalidDay InvalidSum InvalidBill InvalidPayment InvalidIndex"
    " InvalidEntry InvalidLaying InvalidKind InvalidEdges InvalidBills InvalidShows InvalidTariff InvalidExchange NotAkin"
    " InvalidStanding InvalidNumber InvalidEvery InvalidHistory InvalidReports InvalidPayments InvalidBook StillNamed NoBlock"
    " NothingToUndo InvalidCommand Overpaid TooLate InvalidWords",
    "entries": "is_account is_manner line bills_of payments_of as_of struck changed joined",
    "layings": "is_laying laid opens waits overlaps payers paid_by moved",
    "days": "owed waiting statement paid_day aged owed_days never_more more_day",
    "charges": "cost cheapest dearest dunned spread",
    "tariffs": "is_tariff charge tariff_cost cost_line akin never_dearer dearer_grace crossings exchanged exchanges"
    " judge_exchanges prices judge_prices cheaper",
    "roughs": "is_rough pair_range sure_pairs possible_pairs open_range owed_range with_pair sharper",
    "orders": "entered_so pairs_in order_range least_order greatest_order sure_in_any same_in_any order_counts order_reason"
    " two_orders parting",
    "latecomers": "late_range firm late_for late_open_range fixed_pairs moved_by",
    "shows": "is_shows show_bar paid_ranges between_ranges payments_for shows_of",
    "standing": "is_standing rise owed_on waiting_on until bill_at payment_at pair_of payers_between paid_off always_within"
    " first_late rooms worst_wait greatest_owed clear_from unlike_day least_payment",
    "closings": "is_history true_account journal origins closed_day reports late_days moved_entries balance least_account"
    " same_balance closings_back counts_back first_count Journal",
    "books": "Book",
    "ledgers": "Ledger StrictLedger DatedLedger StrictDatedLedger",
    "words": "write_account write_rough write_manner read_account read_rough read_manner",
    "console": "Console",
}


def ledger_of(account, manner, kind=Ledger):
    """A ledger with these entries; struck ones are entered and struck."""
    ledger = kind(manner)
    for entry in account:
        if entry[0] == "named":
            ledger.named(entry[1], entry[2], bill=entry[3])
        elif entry[0] == "struck":
            ledger.bill(0, 1)
            ledger.strike(len(ledger.account) - 1)
        else:
            getattr(ledger, entry[0])(entry[1], entry[2])
    return ledger


def in_sequence(account):
    """The account with the bills that are named from ahead named no longer."""
    return tuple([
        entry if entry[0] != "named" or entry[3] < index else ("pay",) + entry[1:3] for index, entry in enumerate(account)
    ])


class InterfaceTest(unittest.TestCase):
    def test_each_name_is_defined_in_its_file(self):
        for module, names in LISTED.items():
            tree = ast.parse((PACKAGE / f"{module}.py").read_text(encoding="utf-8"))
            defined = [row.name for row in tree.body if isinstance(row, (ast.FunctionDef, ast.ClassDef))]
            for name in names.split():
                self.assertIn(name, defined)
                self.assertTrue(hasattr(importlib.import_module(f"oldestbills.{module}"), name))


class AlikeTest(unittest.TestCase):
    def test_books_ledgers_and_the_console_answer_as_the_functions_do(self):
        for seed in range(40):
            account = in_sequence(any_account(seed, seed % 14))
            manner = MANNERS[seed % 8]
            book, ledger = Book.of(account), ledger_of(account, manner)
            console = Console(manner)
            for entry in account:
                words = "bill 0 1" if entry[0] == "struck" else write_account((entry,)) if entry[0] != "named" else (
                    f"for {entry[3]} {entry[1]} {entry[2]}")
                console.execute(words)
                if entry[0] == "struck":
                    console.execute(f"strike {console.execute('account').count(' then ')}")
            self.assertEqual((ledger.account, read_account(console.execute("account"))), (account, account))
            text = " ".join([":".join(map(str, row)) for row in laid(account, manner)]) or "-"
            self.assertEqual((book.laid(manner), ledger.laying), (laid(account, manner),) * 2)
            self.assertEqual((console.execute("pairs"), console.execute("by " + write_manner(manner))), (text, text))
            for day in DAYS:
                self.assertEqual(book(day), owed(account, day))
                self.assertEqual(console.execute(f"owed {day}"), str(owed(account, day)))
                self.assertEqual(console.execute(f"waiting {day}"), str(waiting(account, day)))
                self.assertEqual(Book.of(account).as_of(day)(99), owed(account, day))
            self.assertEqual((ledger.owed, ledger.waiting), (owed(account, 99), waiting(account, 99)))

    def test_f1_f2_over_the_whole_program(self):
        for seed in range(40):
            account = plain_account(seed, seed % 14)
            self.assertEqual(overlaps(account), ledger_of(account, OLDEST).laying)
            self.assertEqual(overlaps(account), Book.of(account).laid(OLDEST))
            rough = tuple([entry + entry[2:3] for entry in account if entry[0] != "struck"])
            plain = tuple([entry for entry in account if entry[0] != "struck"])
            for bill, payment, much in overlaps(plain):
                self.assertEqual(pair_range(rough, bill, payment), (much, much))
            sums = {(ledger.owed, ledger.waiting) for ledger in [ledger_of(account, manner) for manner in MANNERS]}
            self.assertEqual(sums, {(owed(account, 99), waiting(account, 99))})

    def test_c2_over_the_whole_program(self):
        for seed in range(30):
            live = Journal()
            for deed in any_history(seed, seed):
                getattr(live, deed[0])(*deed[1:])
                self.assertEqual(live.balance_now, balance(live.account, 99))
                self.assertEqual(live.balance_now, balance(live.posted, 99))
                self.assertEqual(Book.of(live.account)(99), Book.of(live.posted)(99))
                if live.closed is None:
                    self.assertTrue(Book.of(live.account) == Book.of(live.posted))

    def test_c5_over_the_whole_program(self):
        for seed in range(30):
            account = any_account(seed, 14, days=4)
            least = least_account(account)
            self.assertTrue(same_balance(account, least))
            self.assertTrue(Book.of(account) == Book.of(least))
            self.assertEqual(owed_days(account), owed_days(least))
            for other in (least[:k] + least[k + 1:] for k in range(len(least))):
                self.assertFalse(Book.of(account) == Book.of(other))

    def test_c6_over_the_whole_program(self):
        for seed in range(30):
            history = any_history(seed, 20, words=("bill", "pay", "bill", "pay", "close"))
            entered = tuple([deed for deed in history if deed[0] != "close"])
            live, counts, shown = Journal(), [], []
            for deed in history:
                report = getattr(live, deed[0])(*deed[1:])
                if deed[0] == "close":
                    counts.append(len(live.account))
                    shown.append((deed[1], report[1]))
            rows = counts_back(entered, tuple(shown))
            self.assertEqual([row[0] for row in rows], list(closings_back(entered, tuple(shown))))
            for count, row in zip(counts, rows):
                self.assertIn(count, row)

    def test_f8_over_the_whole_program(self):
        for seed in range(30):
            account = plain_account(seed, seed % 20)
            bills = tuple([account[index] for index in bills_of(account)])
            shows = shows_of(account, list(DAYS))
            self.assertIsNone(show_bar(bills, shows))
            self.assertEqual(shows_of(bills + payments_for(bills, shows), list(DAYS)), shows)
            for day, shown in shows:
                past = Book.of(account).as_of(day).account
                self.assertEqual(list(shown), opens(past, OLDEST))
                self.assertEqual(sum(shown), Book.of(account)(day))


if __name__ == "__main__":
    unittest.main()
