"""Layings: which payment pays which bill, and by how much."""

from oldestbills.checks import check_account
from oldestbills.checks import check_bill
from oldestbills.checks import check_manner
from oldestbills.checks import check_payment
from oldestbills.checks import check_plain
from oldestbills.checks import is_ascending
from oldestbills.checks import is_bill_index
from oldestbills.checks import is_payment_index
from oldestbills.checks import is_sum
from oldestbills.entries import bills_of
from oldestbills.entries import line
from oldestbills.entries import payments_of


def is_laying(account, value):
    """Whether any value is a laying of the account, by whichever rule."""
    check_account(account)
    if type(value) != list or not all([has_pair_form(account, row) for row in value]):
        return False
    # Rows whose pairs ascend are ascending themselves, and no pair comes twice.
    if not is_ascending([(bill, payment) for bill, payment, much in value]):
        return False
    left = [sum_of(entry) for entry in account]
    for bill, payment, much in value:
        left[bill] = left[bill] - much
        left[payment] = left[payment] - much
    return all([rest >= 0 for rest in left])


def has_pair_form(account, row):
    """Whether any value is a tuple of the indexes of a bill and a payment and of a sum."""
    if type(row) != tuple or len(row) != 3:
        return False
    return is_bill_index(account, row[0]) and is_payment_index(account, row[1]) and is_sum(row[2])


def laid(account, manner):
    """The laying of the account by a manner."""
    check_account(account)
    check_manner(manner)
    pairs, left = gone_through(account, manner)
    return sorted(pairs)


def opens(account, manner):
    """The open sums of the bills along the line."""
    check_account(account)
    check_manner(manner)
    pairs, left = gone_through(account, manner)
    return [left[bill] for bill in bills_of(account)]


def waits(account, manner):
    """The waiting sums of the payments along the line."""
    check_account(account)
    check_manner(manner)
    pairs, left = gone_through(account, manner)
    return [left[payment] for payment in payments_of(account)]


def gone_through(account, manner):
    """The tuples in the sequence in which they are laid, and what is left of each entry's sum."""
    sequence, choice = manner
    along = line(account)
    walk = along if sequence == "days" else sorted(along)
    left = [sum_of(entry) for entry in account]
    pairs = []
    met = {}
    for index in walk:
        others = [other for other in along if other in met and left[other] > 0]
        partners = partners_of(account, index, others, left, choice)
        for other in partners:
            much = min(left[index], left[other])
            if much > 0:
                left[index] = left[index] - much
                left[other] = left[other] - much
                pairs.append(pair_row(account, index, other, much))
        met[index] = True
    return pairs, left


def sum_of(entry):
    """The sum of an entry, 0 for a struck one."""
    return 0 if entry[0] == "struck" else entry[2]


def partners_of(account, index, others, left, choice):
    """Those of the others, along the line, that an entry meets, in the sequence in which it does."""
    entry = account[index]
    if entry[0] == "bill":
        return [other for other in others if account[other][0] != "bill"]
    bills = ranked([other for other in others if account[other][0] == "bill"], left, choice)
    if entry[0] == "named" and entry[3] in bills:
        return [entry[3]] + [bill for bill in bills if bill != entry[3]]
    return bills


def ranked(bills, left, choice):
    """Bills along the line in the sequence in which a payment is laid on them."""
    # A payment leaves a bill only when it is paid off, so the open sums ahead of
    # the payment rank the others, too. Equal ones stay along the line.
    if choice == "greatest":
        return sorted(bills, key=lambda bill: left[bill], reverse=True)
    if choice == "least":
        return sorted(bills, key=lambda bill: left[bill])
    return bills if choice == "oldest" else bills[::-1]


def pair_row(account, index, other, much):
    """The tuple of a bill and a payment, whichever of both the index is."""
    if account[index][0] == "bill":
        return (index, other, much)
    return (other, index, much)


def overlaps(plain):
    """The laying in which each pair has as its sum how much their stretches overlap."""
    check_plain(plain)
    rows = []
    for bill, bill_from, bill_to in stretches(plain, bills_of(plain)):
        for payment, paid_from, paid_to in stretches(plain, payments_of(plain)):
            much = min(bill_to, paid_to) - max(bill_from, paid_from)
            if much > 0:
                rows.append((bill, payment, much))
    return sorted(rows)


def stretches(account, indexes):
    """The tuples (index, from, to) of entries that are put one behind the other, from 0 on."""
    rows = []
    end = 0
    for index in indexes:
        begin = end
        end = begin + account[index][2]
        rows.append((index, begin, end))
    return rows


def payers(account, manner, bill):
    """The tuples (payment, sum) of the payments that are laid on a bill, along the line."""
    check_account(account)
    check_manner(manner)
    check_bill(account, bill)
    sums = {payment: much for paid, payment, much in laid(account, manner) if paid == bill}
    return [(payment, sums[payment]) for payment in payments_of(account) if payment in sums]


def paid_by(account, manner, payment):
    """The tuples (bill, sum) of the bills that a payment is laid on, along the line."""
    check_account(account)
    check_manner(manner)
    check_payment(account, payment)
    sums = {bill: much for bill, payer, much in laid(account, manner) if payer == payment}
    return [(bill, sums[bill]) for bill in bills_of(account) if bill in sums]


def moved(account, other_account, manner):
    """The tuples (bill, payment, sum before, sum after) of the pairs whose sums are unlike."""
    check_account(account)
    check_account(other_account)
    check_manner(manner)
    before = {(bill, payment): much for bill, payment, much in laid(account, manner)}
    after = {(bill, payment): much for bill, payment, much in laid(other_account, manner)}
    pairs = sorted(set(list(before) + list(after)))
    rows = [(bill, payment, before.get((bill, payment), 0), after.get((bill, payment), 0)) for bill, payment in pairs]
    return [row for row in rows if row[2] != row[3]]
