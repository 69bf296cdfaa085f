"""Shows: what was paid, told back from shown lists of open bills, all layings by ("days", "oldest")."""

from oldestbills.checks import are_ascending_integers
from oldestbills.checks import check_plain
from oldestbills.checks import has_entry_form
from oldestbills.checks import is_ascending
from oldestbills.checks import is_integer
from oldestbills.entries import past_of
from oldestbills.errors import InvalidBills
from oldestbills.errors import InvalidDay
from oldestbills.errors import InvalidShows
from oldestbills.layings import open_rows


def is_shows(bills, value):
    """Whether any value is a tuple of shows of the bills."""
    check_bills(bills)
    return fits_shows(bills, value)


def check_bills(bills):
    """InvalidBills unless it is a tuple of bills, their days ascending or equal."""
    if not fits_bills(bills):
        raise InvalidBills("not a tuple of bills along the line")


def fits_bills(value):
    """Whether any value is a tuple of bills, their days ascending or equal."""
    if type(value) != tuple or not all([has_entry_form(entry) and entry[0] == "bill" for entry in value]):
        return False
    return all([value[k][1] <= value[k + 1][1] for k in range(len(value) - 1)])


def check_shows(bills, shows):
    """InvalidShows unless it is a tuple of shows of the bills."""
    if not fits_shows(bills, shows):
        raise InvalidShows("not a tuple of shows of the bills")


def fits_shows(bills, value):
    """Whether any value is a tuple of shows, ascending by their days."""
    if type(value) != tuple or not all([is_show(bills, show) for show in value]):
        return False
    return is_ascending([day for day, opens in value])


def is_show(bills, value):
    """Whether any value is a day with an open sum for each bill up to it."""
    if type(value) != tuple or len(value) != 2 or not is_integer(value[0]) or type(value[1]) != tuple:
        return False
    if len(value[1]) != len([bill for bill in bills if bill[1] <= value[0]]):
        return False
    return all([is_integer(much) and much >= 0 for much in value[1]])


def show_bar(bills, shows):
    """Why no payments lead to the shows, None if some do."""
    check_bills(bills)
    check_shows(bills, shows)
    return bar_of(bills, shows)


def bar_of(bills, shows):
    """The first bar of shows that were checked already."""
    paid = 0
    for at, (_, opens) in enumerate(shows):
        sums = shown_sums(bills, opens)
        many = range(len(opens))
        more = [k for k in many if opens[k] > sums[k]]
        if len(more) > 0:
            return ("more", at, more[0])
        crossed = [(k, m) for k in many for m in many if k < m and opens[k] != 0 and opens[m] < sums[m]]
        if len(crossed) > 0:
            return ("crossed", at) + crossed[0]
        least, greatest = told_by(bills, opens)
        if greatest is not None and greatest < paid:
            return ("less", at)
        paid = least
    return None


def shown_sums(bills, opens):
    """The sums of the bills that a show tells the open sums of."""
    return [bill[2] for bill in bills[:len(opens)]]


def told_by(bills, opens):
    """The tuple (least, greatest) of what a show by itself tells of what is paid, greatest None for no end."""
    paid = sum(shown_sums(bills, opens)) - sum(opens)
    # While no bill is open, more money may wait.
    most = paid if any([much > 0 for much in opens]) else None
    return paid, most


def paid_ranges(bills, shows):
    """For each show the tuple (least, greatest) of what can be paid as of its day, None if there is a bar."""
    check_bills(bills)
    check_shows(bills, shows)
    return ranges_of(bills, shows)


def ranges_of(bills, shows):
    """The ranges of shows that were checked already."""
    if bar_of(bills, shows) is not None:
        return None
    rows = []
    most = None
    # What is paid never falls, so a later show bounds the ones ahead of it.
    for _, opens in shows[::-1]:
        least, greatest = told_by(bills, opens)
        most = most if greatest is None else greatest
        rows.append((least, most))
    return rows[::-1]


def between_ranges(bills, shows):
    """For each show what can be paid behind the show ahead, up to its day, None if there is a bar."""
    check_bills(bills)
    check_shows(bills, shows)
    ranges = ranges_of(bills, shows)
    if ranges is None:
        return None
    rows = []
    least_ahead = most_ahead = 0
    for least, most in ranges:
        fewest = 0 if most_ahead is None else max(0, least - most_ahead)
        rows.append((fewest, None if most is None else most - least_ahead))
        least_ahead = least
        most_ahead = most
    return rows


def payments_for(bills, shows):
    """The fewest payments that lead to the shows, None if there are none."""
    check_bills(bills)
    check_shows(bills, shows)
    ranges = ranges_of(bills, shows)
    if ranges is None:
        return None
    entries = []
    paid = 0
    for (day, _), (least, most) in zip(shows, ranges):
        if paid < least:
            # As much as can be serves the most later shows; without an end the last show tells what is enough.
            enough = ranges[-1][0] if most is None else most
            entries.append(("pay", day, enough - paid))
            paid = enough
    return tuple(entries)


def shows_of(plain, days):
    """The shows of the bills of an account, along the line, on some days."""
    check_plain(plain)
    check_days(days)
    return tuple([(day, open_sums_as_of(plain, day)) for day in days])


def check_days(days):
    """InvalidDay unless it is a list of ascending integers."""
    if type(days) != list or not are_ascending_integers(days):
        raise InvalidDay("not a list of ascending integers")


def open_sums_as_of(plain, day):
    """The open sums as of a day of the bills up to it, along the line."""
    return tuple([much for bill, much in open_rows(past_of(plain, day), ("days", "oldest"))])
