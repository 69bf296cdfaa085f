"""Sequences: what pairs come to when the entries are entered in any sequence, and where two rules part."""

from oldestbills.checks import check_account
from oldestbills.checks import check_bill
from oldestbills.checks import check_manner
from oldestbills.checks import check_order
from oldestbills.checks import check_payment
from oldestbills.checks import check_plain
from oldestbills.entries import bills_along
from oldestbills.entries import payments_along
from oldestbills.layings import laid_by

# The entries of the accounts in which rules can part, ascending.
WORDS = ("bill", "pay")
DAYS = (0, 1, 2)
SUMS = (1, 2)


def entered_so(account, order):
    """The account entered in a sequence."""
    check_account(account)
    check_order(account, order)
    return reordered(account, order)


def reordered(account, order):
    """What was checked already, entered in a sequence."""
    places = {index: place for place, index in enumerate(order)}
    return tuple([renamed_by(account[index], places) for index in order])


def renamed_by(entry, places):
    """The entry; if it is a named payment, with the new index of its bill."""
    if entry[0] != "named":
        return entry
    return entry[:3] + (places[entry[3]],)


def pairs_in(plain, order):
    """The tuples (bill, payment, sum) of the account entered in a sequence, by the indexes of plain."""
    check_plain(plain)
    check_order(plain, order)
    rows = laid_by(reordered(plain, order), ("entered", "oldest"))
    return sorted([(order[bill], order[payment], much) for bill, payment, much in rows])


def order_range(plain, bill, payment):
    """The tuple (least, greatest) of the sums that the pair has over all sequences."""
    check_plain(plain)
    check_bill(plain, bill)
    check_payment(plain, payment)
    return range_over_all(plain[bill][2], plain[payment][2], max(totals(plain)))


def totals(plain):
    """The tuple of what all bills come to and what all payments do."""
    billed = sum([plain[bill][2] for bill in bills_along(plain)])
    return billed, sum([plain[payment][2] for payment in payments_along(plain)])


def range_over_all(billed, paid, most):
    """The sums of a pair over all sequences, by those of both and the greater one of the totals."""
    return max(0, billed + paid - most), min(billed, paid)


def least_order(plain, bill, payment):
    """A sequence in which the pair has the least sum."""
    check_plain(plain)
    check_bill(plain, bill)
    check_payment(plain, payment)
    return least_first(plain, bill, payment)


def least_first(plain, bill, payment):
    """Entered so, the side that comes to more in all has its other entries take what they can of the pair."""
    billed, paid = totals(plain)
    if billed >= paid:
        others = [index for index in bills_along(plain) if index != bill]
        return begun_with(plain, others + [payment, bill])
    others = [index for index in payments_along(plain) if index != payment]
    return begun_with(plain, others + [bill, payment])


def greatest_order(plain, bill, payment):
    """A sequence in which the pair has the greatest sum."""
    check_plain(plain)
    check_bill(plain, bill)
    check_payment(plain, payment)
    return begun_with(plain, [bill, payment])


def begun_with(plain, indexes):
    """The sequence that begins with these indexes; the others follow in theirs."""
    return tuple(indexes + [index for index in range(len(plain)) if index not in indexes])


def sure_in_any(plain):
    """The pairs (bill, payment) whose sum is at least 1 in all sequences."""
    check_plain(plain)
    return [(bill, payment) for bill, payment, least, greatest in all_ranges(plain) if least >= 1]


def same_in_any(plain):
    """The tuples (bill, payment, sum) of the pairs that have this one sum, at least 1, in all sequences."""
    check_plain(plain)
    return [(b, p, least) for b, p, least, greatest in all_ranges(plain) if least == greatest]


def all_ranges(plain):
    """The tuples (bill, payment, least, greatest) over all sequences of all pairs, ascending."""
    most = max(totals(plain))
    pairs = [(b, p) for b in sorted(bills_along(plain)) for p in sorted(payments_along(plain))]
    return [(b, p) + range_over_all(plain[b][2], plain[p][2], most) for b, p in pairs]


def order_counts(plain):
    """Whether two sequences give unlike pairs."""
    return order_reason(plain) is None


def order_reason(plain):
    """Why all sequences give the same pairs, None if they do not."""
    check_plain(plain)
    bills = bills_along(plain)
    payments = payments_along(plain)
    billed, paid = totals(plain)
    if len(bills) == 0 or len(payments) == 0:
        return ("none",)
    if len(bills) == 1 and billed >= paid:
        return ("bill", bills[0])
    if len(payments) == 1 and paid >= billed:
        return ("payment", payments[0])
    return None


def two_orders(plain):
    """Two sequences that give unlike pairs, None if there are none."""
    check_plain(plain)
    pairs = [(bill, payment) for bill, payment, least, greatest in all_ranges(plain) if least < greatest]
    if len(pairs) == 0:
        return None
    bill, payment = pairs[0]
    return least_first(plain, bill, payment), begun_with(plain, [bill, payment])


def parting(manner, other_manner):
    """The least small account whose layings by both are unlike, None if there is none."""
    check_manner(manner)
    check_manner(other_manner)
    if manner == other_manner:
        return None
    entries = [(word, day, much) for word in WORDS for day in DAYS for much in SUMS]
    accounts = [()]
    # Shorter accounts come first, those of one length in their sequence as tuples.
    for _ in range(3):
        accounts = [head + (entry,) for head in accounts for entry in entries]
        for account in accounts:
            if laid_by(account, manner) != laid_by(account, other_manner):
                return account
    return None
