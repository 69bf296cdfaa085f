"""Late entries: what they can make of a pair and of an open sum, all layings by ("days", "oldest")."""

from oldestbills.checks import check_account
from oldestbills.checks import check_bill
from oldestbills.checks import check_day
from oldestbills.checks import check_entry
from oldestbills.checks import check_manner
from oldestbills.checks import check_payment
from oldestbills.checks import check_plain
from oldestbills.checks import check_sum_or_none
from oldestbills.checks import is_older
from oldestbills.entries import payments_along
from oldestbills.layings import laid_by
from oldestbills.layings import moved_rows
from oldestbills.roughs import overlap
from oldestbills.roughs import range_of

# A gap is by how much the payments older than a payment come to more than the bills older than a bill.
# Late entries change a pair by its gap alone: late payments widen it, late bills narrow it.


def late_range(plain, bill, payment, paid, billed):
    """The tuple (least, greatest) of the sums that the pair can have with late entries of so much."""
    check_plain(plain)
    check_bill(plain, bill)
    check_payment(plain, payment)
    check_sum_or_none(paid)
    check_sum_or_none(billed)
    gap = gap_of(plain, bill, payment)
    return range_of(with_bounds(plain[bill]), with_bounds(plain[payment]), (gap - billed, gap + paid))


def gap_of(plain, bill, payment):
    """The gap of a bill and a payment."""
    return sum_ahead(plain, payment) - sum_ahead(plain, bill)


def sum_ahead(plain, index):
    """What the older entries with the word of this one come to."""
    word = plain[index][0]
    return sum([entry[2] for k, entry in enumerate(plain) if entry[0] == word and is_older(plain, k, index)])


def with_bounds(entry):
    """The entry as one of a rough account that stands for this sum alone."""
    return entry + (entry[2],)


def firm(plain, bill, payment):
    """The greatest sum of late entries in all that leaves the pair at least 1, None if it has 0."""
    check_plain(plain)
    check_bill(plain, bill)
    check_payment(plain, payment)
    gap = gap_of(plain, bill, payment)
    nearest = min(plain[bill][2] - gap, plain[payment][2] + gap)
    return nearest - 1 if nearest > 0 else None


def late_for(plain, bill, payment, sum_here):
    """Late entries with the least sum in all with which the pair has this sum, None if there are none."""
    check_plain(plain)
    check_bill(plain, bill)
    check_payment(plain, payment)
    check_sum_or_none(sum_here)
    billed = plain[bill][2]
    paid = plain[payment][2]
    if sum_here > min(billed, paid):
        return None
    gap = gap_of(plain, bill, payment)
    if overlap(billed, paid, gap) == sum_here:
        return ()
    # The gaps with this sum are these two, or all between them, or (for 0) all beyond them: one of both is the nearest.
    wanted = min((billed - sum_here, sum_here - paid), key=lambda end: abs(end - gap))
    # Late entries of the same day would be newer.
    if wanted > gap:
        return (("pay", plain[payment][1] - 1, wanted - gap),)
    return (("bill", plain[bill][1] - 1, gap - wanted),)


def late_open_range(plain, bill, paid, billed):
    """The tuple (least, greatest) of the open sums that the bill can have with late entries of so much."""
    check_plain(plain)
    check_bill(plain, bill)
    check_sum_or_none(paid)
    check_sum_or_none(billed)
    much = plain[bill][2]
    # What is left of the older bills and this one: late entries that are newer bills do not change it.
    left = sum_ahead(plain, bill) + much - sum([plain[payment][2] for payment in payments_along(plain)])
    return max(0, min(much, left - paid)), max(0, min(much, left + billed))


def fixed_pairs(plain, day):
    """The tuples (bill, payment, sum) of the laying that no late entries with days from this day on change."""
    check_plain(plain)
    check_day(day)
    rows = laid_by(plain, ("days", "oldest"))
    return [row for row in rows if plain[row[0]][1] <= day and plain[row[1]][1] <= day]


def moved_by(account, manner, entry):
    """The tuples (bill, payment, sum before, sum after) of the pairs that this entry behind the others moves."""
    check_account(account)
    check_manner(manner)
    check_entry(account, entry)
    return moved_rows(account, account + (entry,), manner)
