"""Charges: what a laying costs by its delays, and what akin layings can cost."""

from oldestbills.checks import check_account
from oldestbills.checks import check_after
from oldestbills.checks import check_days_manner
from oldestbills.checks import check_kind
from oldestbills.checks import check_laying
from oldestbills.checks import check_plain
from oldestbills.entries import bills_along
from oldestbills.entries import payments_along
from oldestbills.layings import delay_of
from oldestbills.layings import laid_by
from oldestbills.layings import laid_sums
from oldestbills.layings import overlapping


def cost(account, laying, kind):
    """What a laying costs by a kind of charges."""
    check_account(account)
    check_laying(account, laying)
    check_kind(kind)
    return cost_by(account, laying, kind)


def cost_by(account, laying, kind):
    """What a laying that was checked already costs."""
    return sum([much * rate(kind, delay_of(account, bill, payment)) for bill, payment, much in laying])


def rate(kind, delay):
    """What a sum of 1 costs by a kind of charges, if it is paid with this delay."""
    if kind[0] == "late":
        return max(0, delay - kind[1])
    return abs(delay) if kind[0] == "apart" else delay * delay


def cheapest(plain, laying):
    """The laying with the same sums laid on each bill and of each payment that costs least."""
    check_plain(plain)
    check_laying(plain, laying)
    return sorted(cheapest_rows(plain, laying))


def cheapest_rows(plain, laying):
    """The tuples of the cheapest akin laying, along the line: its bills and its payments go up together."""
    return overlapping(bills_along(plain), payments_along(plain), laid_sums(plain, laying))


def dearest(plain, laying):
    """The laying with the same sums laid on each bill and of each payment that costs most."""
    check_plain(plain)
    check_laying(plain, laying)
    return sorted(dearest_rows(plain, laying))


def dearest_rows(plain, laying):
    """The tuples of the dearest akin laying: its bills go up along the line, its payments down."""
    return overlapping(bills_along(plain), payments_along(plain)[::-1], laid_sums(plain, laying))


def dunned(account, manner, after):
    """The bills along the line that are open, each one as of its own day plus after."""
    check_account(account)
    check_days_manner(manner)
    check_after(after)
    # Along the line what is laid stays laid: as of a day it is what the payments up to it have in the end.
    left = {bill: account[bill][2] for bill in bills_along(account)}
    for bill, payment, much in laid_by(account, manner):
        if delay_of(account, bill, payment) <= after:
            left[bill] = left[bill] - much
    return [bill for bill in left if left[bill] > 0]


def spread(plain, laying, kind):
    """The tuple of what the cheapest and the dearest akin laying cost."""
    check_plain(plain)
    check_laying(plain, laying)
    check_kind(kind)
    return cost_by(plain, cheapest_rows(plain, laying), kind), cost_by(plain, dearest_rows(plain, laying), kind)
