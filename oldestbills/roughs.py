"""Rough accounts: what holds for all sums within their bounds, all layings by ("days", "oldest")."""

from oldestbills.checks import check_bill
from oldestbills.checks import check_day
from oldestbills.checks import check_payment
from oldestbills.checks import check_rough
from oldestbills.checks import check_sum
from oldestbills.checks import check_sum_or_none
from oldestbills.checks import fits_rough
from oldestbills.checks import is_older
from oldestbills.entries import bills_along
from oldestbills.entries import payments_along

# A gap is by how much the payments older than a payment come to more than the bills older than a bill.


def is_rough(value):
    """Whether any value is a rough account."""
    return fits_rough(value)


def pair_range(rough, bill, payment):
    """The tuple (least, greatest) of the sums that the pair can have."""
    check_rough(rough)
    check_bill(rough, bill)
    check_payment(rough, payment)
    return range_of(rough[bill], rough[payment], gaps_of(rough, heads(rough), bill, payment))


def heads(rough):
    """For each entry what the older ones with its word come to: the tuple (least, greatest)."""
    rows = [(0, 0) for _ in rough]
    for indexes in (bills_along(rough), payments_along(rough)):
        least = greatest = 0
        for index in indexes:
            rows[index] = (least, greatest)
            least = least + rough[index][2]
            greatest = greatest + rough[index][3]
    return rows


def gaps_of(rough, ahead, bill, payment):
    """The tuple (least, greatest) of the gaps of a bill and a payment."""
    return ahead[payment][0] - ahead[bill][1], ahead[payment][1] - ahead[bill][0]


def overlap(billed, paid, gap):
    """The sum of a pair by the sums of both and their gap."""
    return max(0, min(billed - max(0, gap), paid - max(0, -gap)))


def range_of(billed, paid, gaps):
    """The tuple (least, greatest) of the sums of a pair, by the entries of both and their gaps."""
    # The sum falls on both sides of the gap 0, and it rises with the sums of both.
    least = min([overlap(billed[2], paid[2], gap) for gap in gaps])
    nearest = min(max(0, gaps[0]), gaps[1])
    return least, overlap(billed[3], paid[3], nearest)


def sure_pairs(rough):
    """The pairs (bill, payment) whose sum is at least 1 for all sums."""
    check_rough(rough)
    return [(bill, payment) for bill, payment, least, greatest in pair_rows(rough) if least >= 1]


def possible_pairs(rough):
    """The pairs (bill, payment) whose sum is at least 1 for some sums."""
    check_rough(rough)
    return [(bill, payment) for bill, payment, least, greatest in pair_rows(rough) if greatest >= 1]


def pair_rows(rough):
    """The tuples (bill, payment, least, greatest) of all pairs, ascending."""
    ahead = heads(rough)
    pairs = [(b, p) for b in sorted(bills_along(rough)) for p in sorted(payments_along(rough))]
    return [(b, p) + range_of(rough[b], rough[p], gaps_of(rough, ahead, b, p)) for b, p in pairs]


def open_range(rough, bill):
    """The tuple (least, greatest) of the open sums of the bill."""
    check_rough(rough)
    check_bill(rough, bill)
    least, greatest = heads(rough)[bill]
    payments = [rough[payment] for payment in payments_along(rough)]
    # A payment pays the older bills first.
    left = least + rough[bill][2] - sum([entry[3] for entry in payments])
    most = greatest + rough[bill][3] - sum([entry[2] for entry in payments])
    return max(0, min(rough[bill][2], left)), max(0, min(rough[bill][3], most))


def owed_range(rough, day):
    """The tuple (least, greatest) of what is owed on a day."""
    check_rough(rough)
    check_day(day)
    bills = [entry for entry in rough if entry[0] == "bill" and entry[1] <= day]
    payments = [entry for entry in rough if entry[0] == "pay" and entry[1] <= day]
    least = sum([entry[2] for entry in bills]) - sum([entry[3] for entry in payments])
    greatest = sum([entry[3] for entry in bills]) - sum([entry[2] for entry in payments])
    return max(0, least), max(0, greatest)


def with_pair(rough, bill, payment, sum_here):
    """An account of the rough one in which the pair has this sum, None if there is none."""
    check_rough(rough)
    check_bill(rough, bill)
    check_payment(rough, payment)
    check_sum_or_none(sum_here)
    gaps = gaps_of(rough, heads(rough), bill, payment)
    least, greatest = range_of(rough[bill], rough[payment], gaps)
    if sum_here < least or sum_here > greatest:
        return None
    billed, paid, gap = parts_with(rough[bill], rough[payment], gaps, sum_here)
    return filled(rough, {bill: billed, payment: paid}, older_than(rough, bill, payment), gap - gaps[0])


def parts_with(billed, paid, gaps, much):
    """A sum of the bill, one of the payment and a gap with which the pair has a sum that it can have."""
    for end in gaps:
        if overlap(billed[2], paid[2], end) == much:
            return billed[2], paid[2], end
    gap = stretches_with(billed, paid, gaps, much)[0][0]
    wanted = much + max(0, gap)
    if billed[2] <= wanted:
        return wanted, paid[3], gap
    return billed[3], much + max(0, -gap), gap


def stretches_with(billed, paid, gaps, much):
    """The tuples (from, to) of the gaps with which a pair can have a sum from 1 on, one that it can have."""
    # The bill less a gap above 0, and the payment less one below 0: the lesser of both is the pair's sum.
    low = max(gaps[0], much - paid[3])
    high = min(gaps[1], billed[3] - much)
    if billed[2] <= much or paid[2] <= much:
        return [(low, high)]
    rows = [(low, min(high, much - paid[2])), (max(low, billed[2] - much), high)]
    return [(begin, end) for begin, end in rows if begin <= end]


def older_than(rough, bill, payment):
    """The indexes of the bills older than the bill and of the payments older than the payment."""
    marks = {"bill": bill, "pay": payment}
    return [index for index in range(len(rough)) if is_older(rough, index, marks[rough[index][0]])]


def filled(rough, sums, older, rise):
    """An account of the rough one with these sums, its gap greater than the least one by the rise."""
    entries = []
    for index, (word, day, least, greatest) in enumerate(rough):
        more = min(rise, greatest - least) if index in older else 0
        rise = rise - more
        # The gap is least with the older bills at their greatest sums.
        much = greatest - more if word == "bill" and index in older else least + more
        entries.append((word, day, sums.get(index, much)))
    return tuple(entries)


def sharper(rough, bill, payment, sum_here):
    """What the sum of each entry can be, by itself, if the pair has this sum; None if it can not."""
    check_rough(rough)
    check_bill(rough, bill)
    check_payment(rough, payment)
    check_sum(sum_here)
    gaps = gaps_of(rough, heads(rough), bill, payment)
    least, greatest = range_of(rough[bill], rough[payment], gaps)
    if sum_here < least or sum_here > greatest:
        return None
    rows = [(entry[2], entry[3]) for entry in rough]
    stretches = stretches_with(rough[bill], rough[payment], gaps, sum_here)
    for index in older_than(rough, bill, payment):
        rows[index] = older_range(rough[index], gaps, stretches)
    rows[bill] = own_range(rough[bill], rough[payment], gaps, sum_here)
    rows[payment] = own_range(rough[payment], rough[bill], (-gaps[1], -gaps[0]), sum_here)
    return rows


def own_range(entry, other, gaps, much):
    """The least and the greatest sum of the bill of a pair; with the gaps' signs turned those of its payment."""
    least = max(entry[2], much + max(0, gaps[0]))
    # If the least sum of the other one and this gap leave no more than the sum, the entry may be as great as it can.
    if other[2] <= much + max(0, -gaps[0]):
        return least, entry[3]
    return least, min(entry[3], much + max(0, gaps[1]))


def older_range(entry, gaps, stretches):
    """The least and the greatest sum of an older entry with which the gap can be in one of the stretches."""
    word, _, least, greatest = entry
    if word == "bill":
        rows = [(gaps[0] + greatest - end, gaps[1] + least - begin) for begin, end in stretches]
    else:
        rows = [(begin - gaps[1] + greatest, end - gaps[0] + least) for begin, end in stretches]
    return max(least, min([low for low, high in rows])), min(greatest, max([high for low, high in rows]))
