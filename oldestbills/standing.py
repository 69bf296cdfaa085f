"""Standing accounts: bills and payments that come for ever, laid by ("days", "oldest")."""

from math import lcm

from oldestbills.checks import check_after
from oldestbills.checks import check_day
from oldestbills.checks import check_sum
from oldestbills.checks import is_integer
from oldestbills.checks import is_sum
from oldestbills.errors import InvalidEvery
from oldestbills.errors import InvalidNumber
from oldestbills.errors import InvalidStanding
from oldestbills.repeats import counted
from oldestbills.repeats import day_reaching
from oldestbills.repeats import days_before
from oldestbills.repeats import number_at
from oldestbills.repeats import row_up_to
from oldestbills.repeats import sum_ahead_of
from oldestbills.repeats import sum_up_to
from oldestbills.repeats import thing_at

# From the greatest first day on all comes again after a period: the least common multiple of all every.


def is_standing(value):
    """Whether any value is a standing account."""
    return type(value) == tuple and all([is_standing_entry(entry) for entry in value])


def is_standing_entry(value):
    """Whether any value is an entry of a standing account."""
    if type(value) != tuple or len(value) != 4:
        return False
    word, first, every, much = value
    return (word == "bill" or word == "pay") and is_integer(first) and is_sum(every) and is_sum(much)


def check_standing(standing):
    """InvalidStanding unless it is a standing account."""
    if not is_standing(standing):
        raise InvalidStanding("not a standing account")


def check_number(number):
    """InvalidNumber unless it is an integer from 0 on."""
    if not is_integer(number) or number < 0:
        raise InvalidNumber("not an integer from 0 on")


def check_every(every):
    """InvalidEvery unless it is an integer from 1 on."""
    if not is_sum(every):
        raise InvalidEvery("not an integer from 1 on")


def bills_in(standing):
    """The rows of the bills."""
    return [(index,) + entry[1:] for index, entry in enumerate(standing) if entry[0] == "bill"]


def payments_in(standing):
    """The rows of the payments."""
    return [(index,) + entry[1:] for index, entry in enumerate(standing) if entry[0] == "pay"]


def signed(standing):
    """The rows of all entries, the sums of payments below 0: they come to the balance."""
    signs = {"bill": 1, "pay": -1}
    return [(index,) + entry[1:3] + (signs[entry[0]] * entry[3],) for index, entry in enumerate(standing)]


def rise(standing):
    """The tuple of the period and of what a period's bills less its payments come to."""
    check_standing(standing)
    return rise_of(standing)


def rise_of(standing):
    """The rise of a standing account that was checked already."""
    period = period_of(standing)
    return period, rise_over(standing, period)


def period_of(standing):
    """The least common multiple of all every."""
    period = 1
    for entry in standing:
        period = lcm(period, entry[2])
    return period


def rise_over(standing, days):
    """What the bills of some days less the payments come to, for a multiple of the period."""
    return sum([much * (days // every) for index, first, every, much in signed(standing)])


def turn_of(standing):
    """The greatest first day, 0 without entries."""
    return max([entry[1] for entry in standing], default=0)


def owed_on(standing, day):
    """What is owed behind all of a day."""
    check_standing(standing)
    check_day(day)
    return max(0, sum_up_to(signed(standing), day))


def waiting_on(standing, day):
    """What waits behind all of a day."""
    check_standing(standing)
    check_day(day)
    return max(0, -sum_up_to(signed(standing), day))


def until(standing, day):
    """The account of all bills and payments of days up to this one, along the line."""
    check_standing(standing)
    check_day(day)
    places = [(at, k) for k, entry in enumerate(standing) for at in range(entry[1], day + 1, entry[2])]
    return tuple([(standing[k][0], at, standing[k][3]) for at, k in sorted(places)])


def bill_at(standing, number):
    """The tuple (index of the entry, day) of the bill with this number, None if there are no bills."""
    check_standing(standing)
    check_number(number)
    return place_of(bills_in(standing), number)


def payment_at(standing, number):
    """The tuple (index of the entry, day) of the payment with this number, None if there are no payments."""
    check_standing(standing)
    check_number(number)
    return place_of(payments_in(standing), number)


def place_of(rows, number):
    """The tuple (index, day) of the thing with this number, None if there are none."""
    return thing_at(counted(rows), number) if len(rows) > 0 else None


def stretch_of(standing, rows, number):
    """The tuple (begin, end) of the stretch of the bill or payment with this number."""
    index, day = place_of(rows, number)
    begin = sum_ahead_of(rows, index, day)
    return begin, begin + standing[index][3]


def pair_of(standing, number, other_number):
    """The sum of the pair of the bill and the payment with these numbers."""
    check_standing(standing)
    check_number(number)
    check_number(other_number)
    bills = bills_in(standing)
    payments = payments_in(standing)
    if len(bills) == 0 or len(payments) == 0:
        return 0
    begin, end = stretch_of(standing, bills, number)
    paid_begin, paid_end = stretch_of(standing, payments, other_number)
    return max(0, min(end, paid_end) - max(begin, paid_begin))


def payers_between(standing, number):
    """The tuple of the numbers of the first and the last payment that pay a part of a bill."""
    check_standing(standing)
    check_number(number)
    bills = bills_in(standing)
    payments = payments_in(standing)
    if len(bills) == 0 or len(payments) == 0:
        return None
    begin, end = stretch_of(standing, bills, number)
    return number_at(payments, begin), number_at(payments, end - 1)


def paid_off(standing, number):
    """The least day, not before its own, as of which a bill is not open."""
    check_standing(standing)
    check_number(number)
    bills = bills_in(standing)
    payments = payments_in(standing)
    if len(bills) == 0 or len(payments) == 0:
        return None
    _, day = place_of(bills, number)
    _, end = stretch_of(standing, bills, number)
    return max(day, day_reaching(payments, end))


def always_within(standing, after):
    """Whether each bill is paid off at most so many days behind its day, for ever."""
    return first_late(standing, after) is None


def first_late(standing, after):
    """The number of the first bill that is not paid off within so many days, None if there is none."""
    check_standing(standing)
    check_after(after)
    day = first_late_day(standing, after)
    if day is None:
        return None
    # The bills ahead are paid off by then, so what is paid ends in this one.
    return number_at(bills_in(standing), sum_up_to(payments_in(standing), day + after))


def first_late_day(standing, after):
    """The least day with a bill that is not paid off within so many days, None if there is none."""
    rows = room_rows(standing, after)
    late = [day for day, room in rows if room < 0]
    if len(late) > 0:
        return late[0]
    period, more = rise_of(standing)
    if more <= 0:
        return None
    # From the turn on a room is less by the rise with each period.
    turn = turn_of(standing)
    return min([day + period * (room // more + 1) for day, room in rows if day >= turn])


def rooms(standing, after):
    """The tuples (day, room) of the days with bills until all comes again."""
    check_standing(standing)
    check_after(after)
    return room_rows(standing, after)


def room_rows(standing, after):
    """The rooms of a standing account that was checked already."""
    bills = bills_in(standing)
    payments = payments_in(standing)
    days = days_before(bills, turn_of(standing) + period_of(standing))
    return [(day, sum_up_to(payments, day + after) - sum_up_to(bills, day)) for day in days]


def worst_wait(standing):
    """The tuple (days, number) of the longest time until a bill is paid off, and of the first such bill."""
    check_standing(standing)
    bills = bills_in(standing)
    payments = payments_in(standing)
    period, more = rise_of(standing)
    if len(bills) == 0 or len(payments) == 0 or more > 0:
        return None
    longest = number = 0
    for day in days_before(bills, turn_of(standing) + period):
        billed = sum_up_to(bills, day)
        if sum_up_to(payments, day + longest) < billed:
            longest = day_reaching(payments, billed) - day
            # Of the bills of this day the first one that is not paid off any sooner.
            number = number_at(bills, sum_up_to(payments, day + longest - 1))
    return longest, number


def greatest_owed(standing):
    """The tuple (sum, day) of the greatest sum that is ever owed and the least day on which it is."""
    check_standing(standing)
    period, more = rise_of(standing)
    if more > 0:
        return None
    greatest = 0
    greatest_day = None
    rows = signed(standing)
    for day in days_before(bills_in(standing), turn_of(standing) + period):
        balance = sum_up_to(rows, day)
        if balance > greatest:
            greatest = balance
            greatest_day = day
    return greatest, greatest_day


def clear_from(standing):
    """The least day from which on nothing is owed for ever, None if there is none."""
    check_standing(standing)
    if len(standing) == 0:
        return 0
    period, more = rise_of(standing)
    if more > 0:
        return None
    end = turn_of(standing) + period
    rows = signed(standing)
    days = days_before(rows, end)
    clear = days[0]
    # On the days from one with entries up to the next one the balance is the same.
    for day, next_day in zip(days, days[1:] + [end]):
        balance = sum_up_to(rows, day)
        if balance <= 0:
            continue
        again = times_again(balance, more) if next_day > turn_of(standing) else 0
        if again is None:
            return None
        clear = max(clear, next_day + period * again)
    return clear


def times_again(balance, more):
    """In how many later periods a balance that changes by more, at most 0, in each is above 0; None for no end."""
    return None if more == 0 else (balance - 1) // -more


def unlike_day(standing, other_standing):
    """The least day on which what is owed or what waits is not the same in both, None if there is none."""
    check_standing(standing)
    check_standing(other_standing)
    both = standing + other_standing
    rows = signed(standing) + [(index, first, every, -much) for index, first, every, much in signed(other_standing)]
    days = days_before(rows, turn_of(both) + period_of(both) + 1)
    unlike = [day for day in days if sum_up_to(rows, day) != 0]
    return unlike[0] if len(unlike) > 0 else None


def least_payment(standing, first, every, after):
    """The least sum of a further standing payment with which each bill is paid off within so many days."""
    check_standing(standing)
    check_day(first)
    check_every(every)
    check_after(after)
    both = standing + (("pay", first, every, 1),)
    period = period_of(both)
    least = max(0, ceiling(rise_over(standing, period), period // every))
    bills = bills_in(standing)
    payments = payments_in(standing)
    for day in days_before(bills, turn_of(both) + period):
        missing = sum_up_to(bills, day) - sum_up_to(payments, day + after)
        many = row_up_to((0, first, every, 1), day + after)
        if missing > 0 and many == 0:
            return None
        if missing > 0:
            least = max(least, ceiling(missing, many))
    return least


def ceiling(number, divisor):
    """The least integer that times the divisor is at least the number."""
    return -(-number // divisor)
