"""Closed days: histories and their journals, balances, and reports told back."""

from oldestbills.checks import check_account
from oldestbills.checks import check_day
from oldestbills.checks import check_index
from oldestbills.checks import check_plain
from oldestbills.checks import check_sum
from oldestbills.checks import check_sum_or_none
from oldestbills.checks import is_ascending
from oldestbills.checks import is_integer
from oldestbills.courses import course_behind
from oldestbills.courses import course_of
from oldestbills.courses import first_course
from oldestbills.courses import is_open_day
from oldestbills.courses import last_close
from oldestbills.courses import report_of
from oldestbills.days import balance_as_of
from oldestbills.days import balance_of
from oldestbills.days import changes_of
from oldestbills.errors import InvalidAccount
from oldestbills.errors import InvalidDay
from oldestbills.errors import InvalidHistory
from oldestbills.errors import InvalidIndex
from oldestbills.errors import InvalidReports
from oldestbills.errors import NothingToUndo


def is_history(value):
    """Whether any value is a history."""
    return course_of(value) is not None


def checked_course(history):
    """What a history leads to; InvalidHistory unless it is one."""
    course = course_of(history)
    if course is None:
        raise InvalidHistory("not a history")
    return course


def true_account(history):
    """The account as it is said to be now."""
    return checked_course(history).entries


def journal(history):
    """The account that is led beside the true one and leaves closed days as they are."""
    return checked_course(history).rows


def origins(history):
    """For each entry of the journal whether it is a post or a reversal, and of which true entry."""
    return list(checked_course(history).roots)


def closed_day(history):
    """The closed day, None if there is none."""
    return last_close(checked_course(history))


def reports(history):
    """The reports of the closes, in their sequence, as they went out."""
    course = checked_course(history)
    return [report_of(course, day) for day in course.closes]


def late_days(history):
    """The tuples (day, difference): the balance of the true account less that of the journal, where it changes."""
    course = checked_course(history)
    changes = changes_of(course.entries)
    posted = changes_of(course.rows)
    rows = []
    difference = 0
    for day in sorted(set(list(changes) + list(posted))):
        change = changes.get(day, 0) - posted.get(day, 0)
        difference = difference + change
        if change != 0:
            rows.append((day, difference))
    return rows


def moved_entries(history):
    """The indexes of the true entries that are not struck and not posted on their own days."""
    course = checked_course(history)
    alive = [index for index, entry in enumerate(course.entries) if entry[0] != "struck"]
    return [index for index in alive if course.rows[course.posts[index]][1] != course.entries[index][1]]


def balance(account, day):
    """What the bills as of the day add up to, less what the payments do."""
    check_account(account)
    check_day(day)
    return balance_as_of(account, day)


def least_account(account):
    """The account with the fewest entries that has the same balance on all days."""
    check_account(account)
    return least_entries(account)


def least_entries(account):
    """The least account of one that was checked already."""
    changes = changes_of(account)
    rows = [(day, changes[day]) for day in sorted(changes) if changes[day] != 0]
    return tuple([("bill", day, change) if change > 0 else ("pay", day, -change) for day, change in rows])


def same_balance(account, other_account):
    """Whether both accounts have the same balance on all days."""
    check_account(account)
    check_account(other_account)
    return least_entries(account) == least_entries(other_account)


def closings_back(plain, shown_balances):
    """The least numbers of entries that can have been entered by each report, None if none can."""
    check_whole(plain)
    check_shown(shown_balances)
    least = least_counts(matching_counts(plain, shown_balances))
    return None if least is None else tuple(least)


def counts_back(plain, shown_balances):
    """For each report the numbers of entries that can have been entered by it, None if none can."""
    check_whole(plain)
    check_shown(shown_balances)
    rows = matching_counts(plain, shown_balances)
    least = least_counts(rows)
    if least is None:
        return None
    greatest = greatest_counts(rows)
    return [[n for n in counts if low <= n <= high] for counts, low, high in zip(rows, least, greatest)]


def check_whole(plain):
    """InvalidAccount unless it is an account without named payments and struck entries."""
    check_plain(plain)
    if any([entry[0] == "struck" for entry in plain]):
        raise InvalidAccount("an account with struck entries")


def check_shown(shown_balances):
    """InvalidReports unless it is a tuple of tuples (day, balance), days ascending."""
    if type(shown_balances) != tuple or not all([is_shown(row) for row in shown_balances]):
        raise InvalidReports("not a tuple of days and balances")
    if not is_ascending([day for day, shown in shown_balances]):
        raise InvalidReports("days that do not ascend")


def is_shown(value):
    """Whether any value is a tuple of two integers."""
    return type(value) == tuple and len(value) == 2 and is_integer(value[0]) and is_integer(value[1])


def matching_counts(plain, shown_balances):
    """For each report the numbers n for which the first n entries have its balance, ascending."""
    numbers = range(len(plain) + 1)
    return [[n for n in numbers if balance_as_of(plain[:n], day) == shown] for day, shown in shown_balances]


def least_counts(rows):
    """Of each row the least number that is not less than the one taken ahead, None if there is none."""
    taken = []
    least = 0
    for counts in rows:
        fitting = [n for n in counts if n >= least]
        if len(fitting) == 0:
            return None
        least = fitting[0]
        taken.append(least)
    return taken


def greatest_counts(rows):
    """Of each row the greatest number that is not greater than the one taken behind; there is one."""
    taken = []
    for counts in rows[::-1]:
        fitting = [n for n in counts if len(taken) == 0 or n <= taken[-1]]
        taken.append(fitting[-1])
    return taken[::-1]


def first_count(plain, day, most):
    """The least number from which on the entries with days up to this one have together at most so much."""
    check_plain(plain)
    check_day(day)
    check_sum_or_none(most)
    sums = [entry[2] if entry[0] != "struck" and entry[1] <= day else 0 for entry in plain]
    return [n for n in range(len(plain) + 1) if sum(sums[n:]) <= most][0]


class Journal:
    """A history that is kept live."""

    def __init__(self):
        self._deeds = []
        # What the first deeds lead to: none of them, one of them, and so on.
        self._courses = [first_course()]

    @property
    def history(self):
        """The deeds that stand."""
        return tuple(self._deeds)

    @property
    def account(self):
        """The true account."""
        return self._courses[-1].entries

    @property
    def posted(self):
        """The journal."""
        return self._courses[-1].rows

    @property
    def closed(self):
        """The closed day, None if there is none."""
        return last_close(self._courses[-1])

    @property
    def balance_now(self):
        """The balance of the true account of all entries."""
        return balance_of(self._courses[-1].entries)

    def bill(self, day, sum_here):
        """Enters a bill; the day on which it is posted."""
        return self._entered("bill", day, sum_here)

    def pay(self, day, sum_here):
        """Enters a payment; the day on which it is posted."""
        return self._entered("pay", day, sum_here)

    def _entered(self, word, day, sum_here):
        """Puts an entry behind the others; the day on which it is posted."""
        check_day(day)
        check_sum(sum_here)
        return self._done((word, day, sum_here)).rows[-1][1]

    def _done(self, deed):
        """Does a deed that can be done; what it leads to."""
        self._courses.append(course_behind(self._courses[-1], deed))
        self._deeds.append(deed)
        return self._courses[-1]

    def strike(self, index):
        """Strikes a true entry; whether its post is "struck" or gets a "reversal"."""
        check_index(self.account, index)
        many = len(self.posted)
        return "struck" if len(self._done(("strike", index)).rows) == many else "reversal"

    def change(self, index, day, sum_here):
        """Gives a true entry another day and sum; the day on which it is posted anew."""
        check_index(self.account, index)
        check_day(day)
        check_sum(sum_here)
        return self._done(("change", index, day, sum_here)).rows[-1][1]

    def close(self, day):
        """Closes a day and those ahead of it; the report."""
        check_day(day)
        if not is_open_day(self._courses[-1], day):
            raise InvalidDay("not greater than the closed day")
        return report_of(self._done(("close", day)), day)

    def undo(self):
        """Takes back the last deed that stands; its word."""
        if len(self._deeds) == 0:
            raise NothingToUndo("no deed stands")
        self._courses.pop()
        return self._deeds.pop()[0]

    def report(self, k):
        """The report of the close with this index among those that stand, as it went out."""
        closes = self._courses[-1].closes
        if not is_integer(k) or k < 0 or k >= len(closes):
            raise InvalidIndex("not the index of a close that stands")
        return report_of(self._courses[-1], closes[k])

    def twin(self):
        """An independent copy that can take back each deed that stands."""
        other = Journal()
        other._deeds = list(self._deeds)
        other._courses = list(self._courses)
        return other

    def __len__(self):
        return len(self._deeds)

    def __eq__(self, other):
        return isinstance(other, Journal) and self._deeds == other._deeds
