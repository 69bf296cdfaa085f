"""Days: what is owed and what waits on each day, and how old it is."""

from oldestbills.checks import check_account
from oldestbills.checks import check_bill
from oldestbills.checks import check_day
from oldestbills.checks import check_days_manner
from oldestbills.checks import check_edges
from oldestbills.checks import check_manner
from oldestbills.entries import as_of
from oldestbills.entries import bills_of
from oldestbills.entries import line
from oldestbills.entries import payments_of
from oldestbills.layings import opens
from oldestbills.layings import payers


def owed(account, day):
    """The sum of the open sums as of a day."""
    return max(0, billed_less_paid(account, day))


def waiting(account, day):
    """The sum of the waiting sums as of a day."""
    return max(0, -billed_less_paid(account, day))


def billed_less_paid(account, day):
    """What the bills as of a day add up to, less what the payments do."""
    # No bill is open while money waits, so the difference alone tells both.
    past = as_of(account, day)
    billed = sum([past[bill][2] for bill in bills_of(past)])
    return billed - sum([past[payment][2] for payment in payments_of(past)])


def statement(account, manner, day):
    """The tuples (bill, open sum) of the bills that are open as of the day, along the line."""
    check_account(account)
    check_manner(manner)
    check_day(day)
    past = as_of(account, day)
    return [(bill, much) for bill, much in zip(bills_of(past), opens(past, manner)) if much > 0]


def paid_day(account, manner, bill):
    """The least day, from the bill's own on, as of which it is not open, None if there is none."""
    check_account(account)
    check_days_manner(manner)
    check_bill(account, bill)
    rows = payers(account, manner, bill)
    if sum([much for payment, much in rows]) < account[bill][2]:
        return None
    # Along the line what is laid stays laid, so the last payer closes the bill.
    return max([account[bill][1]] + [account[payment][1] for payment, much in rows])


def aged(account, manner, day, edges):
    """The open sums as of the day by age: one sum more than edges."""
    check_account(account)
    check_manner(manner)
    check_day(day)
    check_edges(edges)
    sums = [0 for _ in range(len(edges) + 1)]
    for bill, much in statement(account, manner, day):
        age = day - account[bill][1]
        at = len([edge for edge in edges if edge <= age])
        sums[at] = sums[at] + much
    return sums


def owed_days(account):
    """The tuples (day, owed) of the days on which another sum is owed than on the day before."""
    check_account(account)
    rows = []
    before = 0
    for day in days_of(account):
        now = owed(account, day)
        if now != before:
            rows.append((day, now))
        before = now
    return rows


def never_more(account, other_account):
    """Whether on each day the first account owes at most what the other one does."""
    return more_day(account, other_account) is None


def more_day(account, other_account):
    """The least day on which the first account owes more, None if there is none."""
    check_account(account)
    check_account(other_account)
    # What is owed is another sum only on days of entries.
    for day in sorted(set(days_of(account) + days_of(other_account))):
        if owed(account, day) > owed(other_account, day):
            return day
    return None


def days_of(account):
    """The days of the entries that are not struck, ascending, each once."""
    return sorted(set([account[index][1] for index in line(account)]))
