"""Accounts: their entries, their line, and the accounts that come from them."""

from oldestbills.checks import check_account
from oldestbills.checks import check_day
from oldestbills.checks import check_index
from oldestbills.checks import check_sum
from oldestbills.checks import fits_account
from oldestbills.checks import fits_manner
from oldestbills.errors import InvalidDay
from oldestbills.errors import StillNamed


def is_account(value):
    """Whether any value is an account."""
    return fits_account(value)


def is_manner(value):
    """Whether any value is a manner."""
    return fits_manner(value)


def line(account):
    """The indexes of the entries along the line."""
    check_account(account)
    return along(account)


def along(account):
    """The line of what was checked already: an account, or a rough one."""
    places = [(account[k][1], k) for k in range(len(account)) if account[k][0] != "struck"]
    return [index for day, index in sorted(places)]


def bills_of(account):
    """The indexes of the bills along the line."""
    check_account(account)
    return bills_along(account)


def bills_along(account):
    """The bills of what was checked already."""
    return [index for index in along(account) if account[index][0] == "bill"]


def payments_of(account):
    """The indexes of the payments along the line."""
    check_account(account)
    return payments_along(account)


def payments_along(account):
    """The payments of what was checked already."""
    return [index for index in along(account) if account[index][0] != "bill"]


def as_of(account, day):
    """The account with all entries of greater days struck."""
    check_account(account)
    check_day(day)
    return past_of(account, day)


def past_of(account, day):
    """What was checked already, with all entries of greater days struck."""
    return tuple([struck_behind(entry, day) for entry in account])


def struck_behind(entry, day):
    """The entry, or a struck one if its day is greater than this day."""
    if entry[0] == "struck" or entry[1] <= day:
        return entry
    return ("struck",)


def struck(account, index):
    """The account with this entry struck."""
    check_account(account)
    check_index(account, index)
    if len(naming(account, index)) > 0:
        raise StillNamed("a payment names this bill")
    return replaced(account, index, ("struck",))


def changed(account, index, day, sum_here):
    """The account with another day and another sum of this entry."""
    check_account(account)
    check_index(account, index)
    check_day(day)
    check_sum(sum_here)
    entry = account[index]
    if entry[0] == "named" and account[entry[3]][1] > day:
        raise InvalidDay("the bill that the payment names has a greater day")
    if any([payment[1] < day for payment in naming(account, index)]):
        raise StillNamed("a payment of a day less than this one names the bill")
    return replaced(account, index, (entry[0], day, sum_here) + entry[3:])


def joined(account, other_account):
    """The entries of both; what the other one's named payments name moves with it."""
    check_account(account)
    check_account(other_account)
    many = len(account)
    return account + tuple([renamed(entry, many) for entry in other_account])


def naming(account, index):
    """The payments that name the entry with this index."""
    return [entry for entry in account if entry[0] == "named" and entry[3] == index]


def replaced(account, index, entry):
    """The account with another entry in the place of this one."""
    return account[:index] + (entry,) + account[index + 1:]


def renamed(entry, many):
    """The entry; if it is a named payment, the index that it tells is raised by this number."""
    if entry[0] != "named":
        return entry
    return ("named", entry[1], entry[2], entry[3] + many)
