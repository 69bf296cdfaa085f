"""Tariffs: layings compared by any convex charge, exchanges between akin layings, and prices."""

from oldestbills.charges import cheapest_rows
from oldestbills.checks import check_account
from oldestbills.checks import check_day
from oldestbills.checks import check_exchange
from oldestbills.checks import check_laying
from oldestbills.checks import check_plain
from oldestbills.checks import check_tariff
from oldestbills.checks import fits_exchange
from oldestbills.checks import fits_tariff
from oldestbills.checks import is_integer
from oldestbills.entries import along
from oldestbills.entries import bills_along
from oldestbills.entries import payments_along
from oldestbills.errors import NotAkin
from oldestbills.layings import delay_of
from oldestbills.layings import laid_sums


def is_tariff(value):
    """Whether any value is a tariff."""
    return fits_tariff(value)


def charge(tariff, delay):
    """What the tariff charges for a delay."""
    check_tariff(tariff)
    check_day(delay)
    return charge_by(tariff, delay)


def charge_by(tariff, delay):
    """What a tariff that was checked already charges for a delay."""
    slope, corners = tariff
    return slope * delay + sum([more * (delay - at) for at, more in corners if at < delay])


def tariff_cost(account, laying, tariff):
    """What a laying costs by a tariff."""
    check_account(account)
    check_laying(account, laying)
    check_tariff(tariff)
    return total_by(account, laying, tariff)


def total_by(account, laying, tariff):
    """What a laying that was checked already costs by a tariff."""
    return sum([much * charge_by(tariff, delay) for delay, much in delays_of(account, laying)])


def delays_of(account, laying):
    """The tuples (delay, sum) of a laying's pairs."""
    return [(delay_of(account, bill, payment), much) for bill, payment, much in laying]


def cost_line(account, laying):
    """The tuples (delay, cost) of the unlike delays, each with the cost by (0, ((delay, 1),))."""
    check_account(account)
    check_laying(account, laying)
    return graced(delays_of(account, laying))


def graced(rows):
    """The tuples (delay, cost): each delay of the rows (delay, sum), and what all cost with it as grace."""
    sums = {}
    for delay, much in rows:
        sums[delay] = sums.get(delay, 0) + much
    costs = []
    beyond = total = ahead = 0
    for delay in sorted(sums, reverse=True):
        # On the way down each sum of a greater delay costs one more by each day.
        total = total + beyond * (ahead - delay)
        costs.append((delay, total))
        beyond = beyond + sums[delay]
        ahead = delay
    return costs[::-1]


def akin(account, laying, other_laying):
    """Whether the layings lay the same sum on each bill and the same sum of each payment."""
    check_account(account)
    check_laying(account, laying)
    check_laying(account, other_laying)
    return are_akin(account, laying, other_laying)


def are_akin(account, laying, other_laying):
    """Whether layings that were checked already are akin."""
    return laid_sums(account, laying) == laid_sums(account, other_laying)


def never_dearer(plain, laying, other_laying):
    """Whether the first laying costs at most what the other one does by every tariff."""
    return dearer_grace(plain, laying, other_laying) is None


def dearer_grace(plain, laying, other_laying):
    """The least grace with which the first laying costs more, None if there is none."""
    check_plain(plain)
    check_laying(plain, laying)
    check_laying(plain, other_laying)
    if not are_akin(plain, laying, other_laying):
        raise NotAkin("the layings lay unlike sums on a bill or of a payment")
    others = [(delay, -much) for delay, much in delays_of(plain, other_laying)]
    return first_above(graced(delays_of(plain, laying) + others))


def first_above(rows):
    """The least grace with which a cost is above 0 that these rows (delay, cost) tell, None if there is none."""
    # Akin layings cost the same with the least of all delays: so the first cost is 0.
    for (delay, total), (next_delay, next_total) in zip(rows, rows[1:]):
        if next_total > 0:
            # From one delay to the next one the cost is straight.
            steep = (next_total - total) // (next_delay - delay)
            return delay + -total // steep + 1
    return None


def crossings(plain, laying):
    """The tuples (k, m), k less than m, of the indexes of two tuples of the laying that cross."""
    check_plain(plain)
    check_laying(plain, laying)
    places = {index: place for place, index in enumerate(along(plain))}
    rows = [(places[bill], places[payment]) for bill, payment, much in laying]
    many = len(rows)
    return [(k, m) for k in range(many) for m in range(k + 1, many) if do_cross(rows[k], rows[m])]


def do_cross(row, other):
    """Whether of two tuples of places on the line one has the older bill and the newer payment."""
    return (row[0] - other[0]) * (row[1] - other[1]) < 0


def exchanged(plain, laying, exchange):
    """The laying behind an exchange."""
    check_plain(plain)
    check_laying(plain, laying)
    sums = pair_sums(laying)
    check_exchange(plain, sums, exchange)
    put_through(sums, exchange)
    return laying_of(sums)


def pair_sums(laying):
    """The sums of a laying by its pairs."""
    return {(bill, payment): much for bill, payment, much in laying}


def laying_of(sums):
    """The laying in which the pairs have these sums."""
    return sorted([(bill, payment, much) for (bill, payment), much in sums.items()])


def put_through(sums, exchange):
    """Makes the sums of the pairs those behind an exchange; pairs of sum 0 are none."""
    bill, payment, other_bill, other_payment, much = exchange
    for pair in ((bill, payment), (other_bill, other_payment)):
        sums[pair] = sums[pair] - much
        if sums[pair] == 0:
            del sums[pair]
    for pair in ((bill, other_payment), (other_bill, payment)):
        sums[pair] = sums.get(pair, 0) + much


def exchanges(plain, laying):
    """Exchanges, each in the laying behind those ahead, that lead to the cheapest laying."""
    check_plain(plain)
    check_laying(plain, laying)
    bills = bills_along(plain)
    payments = payments_along(plain)
    sums = pair_sums(laying)
    rows = []
    # Pairs that are as in the cheapest laying stay: the further ones meet newer bills and payments alone.
    for bill, payment, much in cheapest_rows(plain, laying):
        newer_bills = bills[bills.index(bill) + 1:]
        newer_payments = payments[payments.index(payment) + 1:]
        while sums.get((bill, payment), 0) < much:
            payer = [newer for newer in newer_payments if (bill, newer) in sums][0]
            paid = [newer for newer in newer_bills if (newer, payment) in sums][0]
            rows.append((bill, payer, paid, payment, min(sums[(bill, payer)], sums[(paid, payment)])))
            put_through(sums, rows[-1])
    return rows


def judge_exchanges(plain, laying, value):
    """Whether a value is a list of exchanges, each in the laying behind those ahead, to the cheapest one."""
    check_plain(plain)
    check_laying(plain, laying)
    if type(value) != list:
        return False
    sums = pair_sums(laying)
    for exchange in value:
        if not fits_exchange(plain, sums, exchange):
            return False
        put_through(sums, exchange)
    return laying_of(sums) == sorted(cheapest_rows(plain, laying))


def prices(plain, laying, tariff):
    """Prices that show the laying, None if there are none."""
    check_plain(plain)
    check_laying(plain, laying)
    check_tariff(tariff)
    if not costs_least(plain, laying, tariff):
        return None
    charges = charges_of(plain, tariff)
    vs = {payment: 0 for payment in payments_along(plain)}
    # No akin laying costs less, so the prices of payments do not rise for ever.
    while True:
        us = greatest_us(plain, vs, charges)
        rises = [(p, charges[(b, p)] - us[b]) for b, p, much in laying if us[b] + vs[p] < charges[(b, p)]]
        if len(rises) == 0:
            return [us[bill] for bill in us], [vs[payment] for payment in vs]
        for payment, price in rises:
            vs[payment] = max(vs[payment], price)


def greatest_us(plain, vs, charges):
    """The greatest prices of the bills with which no pair comes to more than its charge."""
    return {b: min([charges[(b, p)] - vs[p] for p in vs], default=0) for b in bills_along(plain)}


def costs_least(plain, laying, tariff):
    """Whether no akin laying costs less by a tariff."""
    return total_by(plain, laying, tariff) <= total_by(plain, cheapest_rows(plain, laying), tariff)


def charges_of(plain, tariff):
    """The charge for each pair of a bill and a payment, also for those that lay nothing."""
    bills = bills_along(plain)
    payments = payments_along(plain)
    return {(b, p): charge_by(tariff, delay_of(plain, b, p)) for b in bills for p in payments}


def judge_prices(plain, laying, tariff, value):
    """Whether a value is prices that show the laying by a tariff."""
    check_plain(plain)
    check_laying(plain, laying)
    check_tariff(tariff)
    bills = bills_along(plain)
    payments = payments_along(plain)
    if type(value) != tuple or len(value) != 2:
        return False
    if not is_list_of_integers(value[0], len(bills)) or not is_list_of_integers(value[1], len(payments)):
        return False
    us = {bill: much for bill, much in zip(bills, value[0])}
    vs = {payment: much for payment, much in zip(payments, value[1])}
    charges = charges_of(plain, tariff)
    if any([us[b] + vs[p] > charges[(b, p)] for b, p in charges]):
        return False
    return all([us[b] + vs[p] == charges[(b, p)] for b, p, much in laying])


def is_list_of_integers(value, many):
    """Whether any value is a list of so many integers."""
    return type(value) == list and len(value) == many and all([is_integer(part) for part in value])


def cheaper(plain, laying, tariff):
    """An akin laying that costs less by a tariff, None if there is none."""
    check_plain(plain)
    check_laying(plain, laying)
    check_tariff(tariff)
    if costs_least(plain, laying, tariff):
        return None
    return sorted(cheapest_rows(plain, laying))
