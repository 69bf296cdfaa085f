"""Days: what is owed and what waits on each day, and how old it is."""

from oldestbills.checks import check_account
from oldestbills.checks import check_bill
from oldestbills.checks import check_day
from oldestbills.checks import check_days_manner
from oldestbills.checks import check_edges
from oldestbills.checks import check_manner
from oldestbills.entries import past_of
from oldestbills.layings import open_rows
from oldestbills.layings import payers_of


def owed(account, day):
    """The sum of the open sums as of a day."""
    check_account(account)
    check_day(day)
    return max(0, balance_as_of(account, day))


def waiting(account, day):
    """The sum of the waiting sums as of a day."""
    check_account(account)
    check_day(day)
    return max(0, -balance_as_of(account, day))


def balance_as_of(account, day):
    """What the bills as of a day add up to, less what the payments do."""
    # No bill is open while money waits, so the difference alone tells both.
    billed = paid = 0
    for entry in account:
        if entry[0] == "struck" or entry[1] > day:
            continue
        if entry[0] == "bill":
            billed = billed + entry[2]
        else:
            paid = paid + entry[2]
    return billed - paid


def balance_of(account):
    """What all bills add up to, less what all payments do."""
    return sum(list(changes_of(account).values()))


def statement(account, manner, day):
    """The tuples (bill, open sum) of the bills that are open as of the day, along the line."""
    check_account(account)
    check_manner(manner)
    check_day(day)
    return open_as_of(account, manner, day)


def open_as_of(account, manner, day):
    """The statement of an account that was checked already."""
    return [(bill, much) for bill, much in open_rows(past_of(account, day), manner) if much > 0]


def paid_day(account, manner, bill):
    """The least day, from the bill's own on, as of which it is not open, None if there is none."""
    check_account(account)
    check_days_manner(manner)
    check_bill(account, bill)
    rows = payers_of(account, manner, bill)
    if sum([much for payment, much in rows]) < account[bill][2]:
        return None
    # Along the line what is laid stays laid, so the last payer closes the bill.
    return max([account[bill][1]] + [account[payment][1] for payment, much in rows])


def aged(account, manner, day, edges):
    """The open sums as of the day by age: one sum more than edges."""
    check_account(account)
    check_manner(manner)
    check_day(day)
    check_edges(edges)
    sums = [0 for _ in range(len(edges) + 1)]
    for bill, much in open_as_of(account, manner, day):
        age = day - account[bill][1]
        at = len([edge for edge in edges if edge <= age])
        sums[at] = sums[at] + much
    return sums


def owed_days(account):
    """The tuples (day, owed) of the days on which another sum is owed than on the day before."""
    check_account(account)
    changes = changes_of(account)
    rows = []
    balance = 0
    for day in sorted(changes):
        before = max(0, balance)
        balance = balance + changes[day]
        if max(0, balance) != before:
            rows.append((day, max(0, balance)))
    return rows


def changes_of(account):
    """By how much the bills less the payments of each day of entries come to more."""
    changes = {}
    for entry in account:
        if entry[0] == "bill":
            changes[entry[1]] = changes.get(entry[1], 0) + entry[2]
        elif entry[0] != "struck":
            changes[entry[1]] = changes.get(entry[1], 0) - entry[2]
    return changes


def never_more(account, other_account):
    """Whether on each day the first account owes at most what the other one does."""
    return more_day(account, other_account) is None


def more_day(account, other_account):
    """The least day on which the first account owes more, None if there is none."""
    check_account(account)
    check_account(other_account)
    changes = changes_of(account)
    other_changes = changes_of(other_account)
    balance = other_balance = 0
    # What is owed is another sum only on days of entries.
    for day in sorted(set(list(changes) + list(other_changes))):
        balance = balance + changes.get(day, 0)
        other_balance = other_balance + other_changes.get(day, 0)
        if balance > max(0, other_balance):
            return day
    return None
