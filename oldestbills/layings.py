"""Layings: which payment pays which bill, and by how much."""

from oldestbills.checks import check_account
from oldestbills.checks import check_bill
from oldestbills.checks import check_manner
from oldestbills.checks import check_payment
from oldestbills.checks import check_plain
from oldestbills.checks import fits_laying
from oldestbills.checks import sum_of
from oldestbills.entries import along
from oldestbills.entries import bills_along
from oldestbills.entries import payments_along


def is_laying(account, value):
    """Whether any value is a laying of the account, by whichever rule."""
    check_account(account)
    return fits_laying(account, value)


def laid(account, manner):
    """The laying of the account by a manner."""
    check_account(account)
    check_manner(manner)
    return laid_by(account, manner)


def laid_by(account, manner):
    """The laying of an account that was checked already."""
    pairs, left = gone_through(account, manner)
    return sorted(pairs)


def opens(account, manner):
    """The open sums of the bills along the line."""
    check_account(account)
    check_manner(manner)
    return [much for bill, much in open_rows(account, manner)]


def open_rows(account, manner):
    """The tuples (bill, open sum) along the line of an account that was checked already."""
    pairs, left = gone_through(account, manner)
    return [(bill, left[bill]) for bill in bills_along(account)]


def waits(account, manner):
    """The waiting sums of the payments along the line."""
    check_account(account)
    check_manner(manner)
    pairs, left = gone_through(account, manner)
    return [left[payment] for payment in payments_along(account)]


def gone_through(account, manner):
    """The tuples in the sequence in which they are laid, and what is left of each entry's sum."""
    sequence, choice = manner
    places = along(account)
    walk = places if sequence == "days" else sorted(places)
    left = [sum_of(entry) for entry in account]
    pairs = []
    met = {}
    for index in walk:
        others = [other for other in places if other in met and left[other] > 0]
        partners = partners_of(account, index, others, left, choice)
        for other in partners:
            much = min(left[index], left[other])
            if much > 0:
                left[index] = left[index] - much
                left[other] = left[other] - much
                pairs.append(pair_row(account, index, other, much))
        met[index] = True
    return pairs, left


def partners_of(account, index, others, left, choice):
    """Those of the others, along the line, that an entry meets, in the sequence in which it does."""
    entry = account[index]
    if entry[0] == "bill":
        return [other for other in others if account[other][0] != "bill"]
    bills = ranked([other for other in others if account[other][0] == "bill"], left, choice)
    if entry[0] == "named" and entry[3] in bills:
        return [entry[3]] + [bill for bill in bills if bill != entry[3]]
    return bills


def ranked(bills, left, choice):
    """Bills along the line in the sequence in which a payment is laid on them."""
    # A payment leaves a bill only when it is paid off, so the open sums ahead of
    # the payment rank the others, too. Equal ones stay along the line.
    if choice == "greatest":
        return sorted(bills, key=lambda bill: left[bill], reverse=True)
    if choice == "least":
        return sorted(bills, key=lambda bill: left[bill])
    return bills if choice == "oldest" else bills[::-1]


def pair_row(account, index, other, much):
    """The tuple of a bill and a payment, whichever of both the index is."""
    if account[index][0] == "bill":
        return (index, other, much)
    return (other, index, much)


def overlaps(plain):
    """The laying in which each pair has as its sum how much their stretches overlap."""
    check_plain(plain)
    sums = [sum_of(entry) for entry in plain]
    return sorted(overlapping(bills_along(plain), payments_along(plain), sums))


def overlapping(bills, payments, sums):
    """How much bills and payments overlap that are put one behind the other, each as long as its sum."""
    rows = []
    ends = ends_of(bills, sums)
    paid_ends = ends_of(payments, sums)
    k = m = at = 0
    while k < len(bills) and m < len(payments):
        stop = min(ends[k], paid_ends[m])
        if stop > at:
            rows.append((bills[k], payments[m], stop - at))
        at = stop
        k = k + 1 if ends[k] == stop else k
        m = m + 1 if paid_ends[m] == stop else m
    return rows


def ends_of(indexes, sums):
    """Where each of the stretches ends."""
    rows = []
    end = 0
    for index in indexes:
        end = end + sums[index]
        rows.append(end)
    return rows


def laid_sums(account, laying):
    """What is laid on each bill and of each payment, by their indexes."""
    sums = [0 for _ in account]
    for bill, payment, much in laying:
        sums[bill] = sums[bill] + much
        sums[payment] = sums[payment] + much
    return sums


def delay_of(account, bill, payment):
    """The day of the payment less that of the bill."""
    return account[payment][1] - account[bill][1]


def payers(account, manner, bill):
    """The tuples (payment, sum) of the payments that are laid on a bill, along the line."""
    check_account(account)
    check_manner(manner)
    check_bill(account, bill)
    return payers_of(account, manner, bill)


def payers_of(account, manner, bill):
    """The payers of a bill of an account that was checked already."""
    sums = {payment: much for paid, payment, much in laid_by(account, manner) if paid == bill}
    return [(payment, sums[payment]) for payment in payments_along(account) if payment in sums]


def paid_by(account, manner, payment):
    """The tuples (bill, sum) of the bills that a payment is laid on, along the line."""
    check_account(account)
    check_manner(manner)
    check_payment(account, payment)
    sums = {bill: much for bill, payer, much in laid_by(account, manner) if payer == payment}
    return [(bill, sums[bill]) for bill in bills_along(account) if bill in sums]


def moved(account, other_account, manner):
    """The tuples (bill, payment, sum before, sum after) of the pairs whose sums are unlike."""
    check_account(account)
    check_account(other_account)
    check_manner(manner)
    return moved_rows(account, other_account, manner)


def moved_rows(account, other_account, manner):
    """The pairs that move between two accounts that were checked already."""
    before = {(bill, payment): much for bill, payment, much in laid_by(account, manner)}
    after = {(bill, payment): much for bill, payment, much in laid_by(other_account, manner)}
    pairs = sorted(set(list(before) + list(after)))
    rows = [(bill, payment, before.get((bill, payment), 0), after.get((bill, payment), 0)) for bill, payment in pairs]
    return [row for row in rows if row[2] != row[3]]
