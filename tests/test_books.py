"""[22]: books against the functions over their accounts."""

import copy
import inspect
import itertools
import unittest

from oldestbills import books
from oldestbills.books import Book
from oldestbills.closings import Journal
from oldestbills.closings import least_account
from oldestbills.closings import same_balance
from oldestbills.days import never_more
from oldestbills.days import owed
from oldestbills.entries import as_of
from oldestbills.entries import is_account
from oldestbills.entries import joined
from oldestbills.errors import BillError
from oldestbills.errors import InvalidAccount
from oldestbills.errors import InvalidBills
from oldestbills.errors import InvalidBook
from oldestbills.errors import InvalidDay
from oldestbills.errors import InvalidIndex
from oldestbills.errors import InvalidManner
from oldestbills.errors import InvalidPayments
from oldestbills.layings import laid
from oldestbills.ledgers import Ledger
from tests.helpers import EXAMPLE
from tests.helpers import HUGE_DAY
from tests.helpers import HUGE_SUM
from tests.helpers import MANNERS
from tests.helpers import MIXED
from tests.helpers import NAMEABLE
from tests.helpers import ODD
from tests.helpers import ODD_ACCOUNTS
from tests.helpers import ODD_DAYS
from tests.helpers import ODD_ENTRIES
from tests.helpers import ODD_MANNERS
from tests.helpers import ODD_NAMES
from tests.helpers import OLDEST
from tests.helpers import any_account
from tests.helpers import odd_indexes

A = Book(("bill", 1, 10), ("pay", 3, 4))
METHODS = (
    "__init__", "__len__", "__getitem__", "__contains__", "__call__", "__add__", "__neg__", "__eq__", "__ne__", "never_more",
    "less", "laid", "as_of", "least",
)
ODD_SUM_LISTS = tuple([value for value in ODD if value != []]) + (
    0, (), ((1, 6),), [[1, 6]], [(1,)], [(1, 6, 0)], [(1, 0)], [(1, -6)], [(1, True)], [(True, 6)], [("1", 6)], [(1, "6")],
    [(None, 6)], [(1, None)], [((1,), 6)], [(1, (6,))], [(1, 6), None], [("bill", 1, 6)], {},
)
NO_BOOKS = ODD + (EXAMPLE, (), [], 0, Journal(), Ledger(OLDEST))


def book_of(account):
    return Book(*account)


class BookTest(unittest.TestCase):
    def test_the_example(self):
        self.assertEqual((len(A), A(2), A(3)), (2, 10, 6))
        self.assertIs(("pay", 3, 4) in A, True)
        self.assertEqual((-A).account, (("pay", -3, 4), ("bill", -1, 10)))
        self.assertTrue(A == Book.plain([(1, 6), (1, 4)], [(3, 4)]))

    def test_the_empty_one(self):
        self.assertEqual((Book().account, Book().total_billed, Book().total_paid, len(Book())), ((), 0, 0, 0))
        self.assertEqual((Book()(3), Book().laid(OLDEST), (-Book()).account, (Book() + Book()).account), (0, [], (), ()))
        self.assertEqual((Book().least().account, Book().as_of(1).account, Book.plain([], []).account), ((), (), ()))
        self.assertTrue(Book() == Book(("struck",)))
        self.assertFalse(Book().less(Book()))
        self.assertRaises(InvalidIndex, lambda: Book()[0])

    def test_accounts(self):
        for account in (EXAMPLE, MIXED, (("struck",),), NAMEABLE):
            self.assertEqual(Book(*account).account, account)
            self.assertEqual(Book.of(account).account, account)
            self.assertIs(type(Book.of(account)), Book)
            self.assertEqual(Book.of(account=account).account, account)
        for entry in ODD_ENTRIES:
            if entry != ("struck",):
                self.assertRaises(InvalidAccount, Book, entry)
        for entry in ODD_NAMES:
            self.assertRaises(InvalidAccount, Book, *NAMEABLE, entry)
        for value in ODD_ACCOUNTS:
            self.assertRaises(InvalidAccount, Book.of, value)
        self.assertRaises(InvalidAccount, Book, EXAMPLE)
        self.assertRaises(InvalidAccount, Book, list(EXAMPLE))

    def test_totals_and_lengths(self):
        book = Book(*MIXED)
        self.assertEqual((book.total_billed, book.total_paid, len(book)), (15, 9, 6))
        for seed in range(20):
            account = any_account(seed, seed)
            sums = {word: sum([entry[2] for entry in account if entry[0] == word]) for word in ("bill", "pay", "named")}
            book = Book.of(account)
            self.assertEqual((book.total_billed, book.total_paid), (sums["bill"], sums["pay"] + sums["named"]))
            self.assertEqual(len(book), len([entry for entry in account if entry != ("struck",)]))
            self.assertIs(bool(book), len(book) > 0)

    def test_items(self):
        book = Book(*MIXED)
        for index, entry in enumerate(MIXED):
            if entry[0] != "struck":
                self.assertEqual(book[index], entry)
        for index in odd_indexes(MIXED, ("bill", "pay", "named")):
            with self.assertRaises(InvalidIndex):
                book[index]

    def test_in(self):
        book = Book(*MIXED)
        for entry in MIXED:
            self.assertIs(entry in book, entry[0] != "struck")
            self.assertIs(list(entry) in book, False)
        one = Book(("bill", 1, 1), ("named", 1, 1, 0), ("pay", 0, 1))
        for value in (
            ("bill", True, 1), ("bill", 1, True), ("bill", True, True), ("named", 1, 1, False), ("named", True, 1, 0),
            ("pay", False, 1), ["bill", 1, 1], ("bill", 1, 2), ("bill", 1), ("pay", 1, 1), ("named", 1, 1, 1), 0, 1, one,
            Book(), Ledger(OLDEST), ("bill", 1, one), (one, 1, 1), ("struck",), (("bill", 1, 1),),
        ) + ODD:
            self.assertIs(value in one, False)
            self.assertIs(value not in one, True)
        for value in (("bill", 1, 1), ("named", 1, 1, 0), ("pay", 0, 1)):
            self.assertIs(value in one, True)

    def test_what_is_owed(self):
        for seed in range(20):
            account = any_account(seed, 12)
            for day in range(-6, 7):
                self.assertEqual(Book.of(account)(day), owed(account, day))
                self.assertEqual(Book.of(account)(day=day), owed(account, day))
                self.assertEqual(Book.of(account).as_of(day).account, as_of(account, day))
        for day in ODD_DAYS:
            self.assertRaises(InvalidDay, A, day)
            self.assertRaises(InvalidDay, A.as_of, day)
        self.assertEqual(A.as_of(day=2).account, (("bill", 1, 10), ("struck",)))

    def test_laid(self):
        for seed in range(10):
            account = any_account(seed, 12)
            for manner in MANNERS:
                self.assertEqual(Book.of(account).laid(manner), laid(account, manner))
        for manner in ODD_MANNERS:
            self.assertRaises(InvalidManner, A.laid, manner)
        A.laid(manner=OLDEST).append("spoiled")
        self.assertEqual(A.laid(OLDEST), [(0, 1, 4)])

    def test_sums_of_books(self):
        self.assertEqual((A + Book(*MIXED)).account, joined(A.account, MIXED))
        self.assertEqual((Book(*MIXED) + Book(*MIXED)).account, joined(MIXED, MIXED))
        for value in NO_BOOKS:
            with self.assertRaises(InvalidBook):
                A + value
        with self.assertRaises(TypeError):
            7 + A

    def test_turned_books(self):
        self.assertEqual((-Book(*MIXED)).account, (
            ("bill", -9, 2), ("pay", -1, 2), ("bill", -1, 7), ("pay", -5, 3), ("struck",), ("pay", -2, 4), ("bill", -1, 6)))
        # The payments of -a that lose their names would name bills that come behind them.
        self.assertEqual((-Book(("bill", 1, 1), ("named", 1, 1, 0))).account, (("pay", -1, 1), ("bill", -1, 1)))
        for seed in range(20):
            account = any_account(seed, 12)
            told = (-Book.of(account)).account
            self.assertTrue(is_account(told))
            self.assertEqual((--Book.of(account)).account, tuple([
                ("pay",) + entry[1:3] if entry[0] == "named" else entry for entry in account]))
            for day in range(-6, 7):
                sums = [entry[2] if entry[0] == "bill" else -entry[2] for entry in account if entry != ("struck",)
                        and -entry[1] <= day]
                self.assertEqual((-Book.of(account))(day), max(0, sum(sums)))

    def test_equality(self):
        found = []
        rows = [any_account(seed, seed % 4, days=2, most=2) for seed in range(60)]
        for one, other in itertools.product(rows, rows):
            same = Book.of(one) == Book.of(other)
            self.assertIs(same, same_balance(one, other))
            self.assertIs(Book.of(one) != Book.of(other), not same)
            found.append(same)
        self.assertGreater(found.count(True), 100)
        for value in NO_BOOKS:
            for book in (A, Book(), Book(*EXAMPLE)):
                self.assertIs(book == value, False)
                self.assertIs(book != value, True)
                self.assertIs(value == book, False)
                self.assertIs(value != book, True)
        self.assertRaises(TypeError, hash, A)
        with self.assertRaises(TypeError):
            {A: 1}

    def test_never_more_and_less(self):
        found = []
        rows = [any_account(seed, seed % 5, days=3, most=3) for seed in range(40)]
        for one, other in itertools.product(rows, rows):
            told = never_more(one, other), never_more(other, one)
            self.assertIs(Book.of(one).never_more(Book.of(other)), told[0])
            self.assertIs(Book.of(one).less(Book.of(other)), told[0] and not told[1])
            found.append(told)
        self.assertEqual(len(set(found)), 4)
        for value in NO_BOOKS:
            self.assertRaises(InvalidBook, A.never_more, value)
            self.assertRaises(InvalidBook, A.less, value)

    def test_least(self):
        for seed in range(30):
            account = any_account(seed, 12, days=3)
            self.assertEqual(Book.of(account).least().account, least_account(account))
            self.assertTrue(Book.of(account).least() == Book.of(account))

    def test_plain(self):
        self.assertEqual(Book.plain([(3, 6), (1, 4)], [(3, 4), (-2, 1)]).account, (
            ("bill", 3, 6), ("bill", 1, 4), ("pay", 3, 4), ("pay", -2, 1)))
        self.assertEqual(Book.plain(paid=[(1, 2)], billed=[]).account, (("pay", 1, 2),))
        self.assertEqual(Book.plain([(HUGE_DAY, HUGE_SUM)], [])(HUGE_DAY), HUGE_SUM)
        for value in ODD_SUM_LISTS:
            self.assertRaises(InvalidBills, Book.plain, value, [])
            self.assertRaises(InvalidBills, Book.plain, value, None)
            self.assertRaises(InvalidPayments, Book.plain, [(1, 2)], value)

    def test_a_book_does_not_change(self):
        billed, paid = [(1, 6), (1, 4)], [(3, 4)]
        before = copy.deepcopy((billed, paid))
        book = Book.plain(billed, paid)
        self.assertEqual((billed, paid), before)
        billed.append((9, 9))
        paid.clear()
        self.assertEqual(book.account, (("bill", 1, 6), ("bill", 1, 4), ("pay", 3, 4)))
        for name in ("account", "total_billed", "total_paid"):
            self.assertIs(type(vars(Book)[name]), property)
            with self.assertRaises(AttributeError):
                setattr(book, name, None)
        other = Book(*MIXED)
        for call in (lambda: book + other, lambda: -book, book.least, lambda: book.as_of(1), lambda: other + book):
            call()
        self.assertEqual((book.account, other.account), ((("bill", 1, 6), ("bill", 1, 4), ("pay", 3, 4)), MIXED))

    def test_as_the_interface_lists_it(self):
        self.assertIs(vars(books)["Book"], Book)
        self.assertEqual(Book.__module__, "oldestbills.books")
        for name in METHODS:
            self.assertTrue(inspect.isfunction(vars(Book)[name]), name)
        for name in ("of", "plain"):
            self.assertIs(type(vars(Book)[name]), staticmethod)
        self.assertRaises(TypeError, iter, A)
        self.assertRaises(TypeError, list, A)
        with self.assertRaises(TypeError):
            one, two = A

    def test_all_errors_are_of_the_package(self):
        for call in (lambda: Book(None), lambda: A[9], lambda: A(None), lambda: A + None, lambda: A.laid(None)):
            self.assertRaises(BillError, call)


if __name__ == "__main__":
    unittest.main()
