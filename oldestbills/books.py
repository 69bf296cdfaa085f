"""Books: accounts as values that do not change."""

from oldestbills.checks import check_account
from oldestbills.checks import check_day
from oldestbills.checks import check_index
from oldestbills.checks import check_manner
from oldestbills.checks import has_entry_form
from oldestbills.checks import is_integer_and_sum
from oldestbills.closings import least_entries
from oldestbills.days import balance_as_of
from oldestbills.days import more_day
from oldestbills.entries import joined
from oldestbills.entries import past_of
from oldestbills.errors import InvalidBills
from oldestbills.errors import InvalidBook
from oldestbills.errors import InvalidPayments
from oldestbills.layings import laid_by


class Book:
    """An account as a value."""

    def __init__(self, *entries):
        check_account(entries)
        self._entries = entries

    @staticmethod
    def of(account):
        """The book of an account."""
        check_account(account)
        return Book(*account)

    @staticmethod
    def plain(billed, paid):
        """The book of bills and payments from two lists of tuples (day, sum)."""
        if not are_dated_sums(billed):
            raise InvalidBills("not a list of tuples of a day and a sum")
        if not are_dated_sums(paid):
            raise InvalidPayments("not a list of tuples of a day and a sum")
        entries = [("bill", day, much) for day, much in billed] + [("pay", day, much) for day, much in paid]
        return Book(*entries)

    @property
    def account(self):
        """The account."""
        return self._entries

    @property
    def total_billed(self):
        """The sum of all bills."""
        return sum([entry[2] for entry in self._entries if entry[0] == "bill"])

    @property
    def total_paid(self):
        """The sum of all payments."""
        return sum([entry[2] for entry in self._entries if entry[0] in ("pay", "named")])

    def __len__(self):
        return len([entry for entry in self._entries if entry[0] != "struck"])

    def __getitem__(self, at):
        check_index(self._entries, at)
        return self._entries[at]

    def __iter__(self):
        raise TypeError("a book is not iterated over")

    def __contains__(self, value):
        # The form of an entry tells True from 1.
        return has_entry_form(value) and value[0] != "struck" and value in self._entries

    def __call__(self, day):
        check_day(day)
        return max(0, balance_as_of(self._entries, day))

    def __add__(self, other):
        check_book(other)
        entries = joined(self._entries, other._entries)
        return Book(*entries)

    def __neg__(self):
        entries = [turned(entry) for entry in self._entries[::-1]]
        return Book(*entries)

    def __eq__(self, other):
        return isinstance(other, Book) and least_entries(self._entries) == least_entries(other._entries)

    def __ne__(self, other):
        return not self == other

    def never_more(self, other):
        """Whether on each day this one owes at most what the other one does."""
        check_book(other)
        return more_day(self._entries, other._entries) is None

    def less(self, other):
        """Whether this one is never more, and the other one is not never more than this one."""
        return self.never_more(other) and not other.never_more(self)

    def laid(self, manner):
        """The laying by a manner."""
        check_manner(manner)
        return laid_by(self._entries, manner)

    def as_of(self, day):
        """The book as of a day."""
        check_day(day)
        entries = past_of(self._entries, day)
        return Book(*entries)

    def least(self):
        """The book with the fewest entries that has the same balance on all days."""
        entries = least_entries(self._entries)
        return Book(*entries)


def are_dated_sums(value):
    """Whether any value is a list of tuples (day, sum)."""
    return type(value) == list and all([is_integer_and_sum(row) for row in value])


def check_book(value):
    """InvalidBook unless it is a book."""
    if not isinstance(value, Book):
        raise InvalidBook("not a book")


def turned(entry):
    """The entry with its day's sign turned, without a name."""
    if entry[0] == "struck":
        return entry
    return ("bill" if entry[0] == "bill" else "pay", -entry[1], entry[2])
