"""A slow journal: a history led deed by deed as [21] tells, each entry with its own marks."""

from tests.helpers import OLDEST
from tests.helpers import Rule


class Slow:
    """The true account and the journal of a history; reports as they go out."""

    def __init__(self, history=()):
        self.truth = []
        self.journal = []
        self.post_of = []
        self.closed = None
        self.reports = []
        for deed in history:
            self.do(deed)

    def do(self, deed):
        word = deed[0]
        if word in ("bill", "pay"):
            self.truth.append(deed)
            self.post_of.append(self.post(deed, len(self.truth) - 1))
        elif word == "strike":
            self.take_out(deed[1])
            self.truth[deed[1]] = ("struck",)
        elif word == "change":
            index, entry = deed[1], (self.truth[deed[1]][0], deed[2], deed[3])
            self.take_out(index)
            self.truth[index] = entry
            self.post_of[index] = self.post(entry, index)
        else:
            self.closed = deed[1]
            self.reports.append(self.report())

    def posting_day(self, day):
        if self.closed is not None and day <= self.closed:
            return self.closed + 1
        return day

    def post(self, entry, index):
        self.journal.append([(entry[0], self.posting_day(entry[1]), entry[2]), ("post", index)])
        return len(self.journal) - 1

    def take_out(self, index):
        row = self.journal[self.post_of[index]]
        if self.closed is None or row[0][1] > self.closed:
            row[0] = ("struck",)
        else:
            other = "pay" if row[0][0] == "bill" else "bill"
            self.journal.append([(other, self.closed + 1, row[0][2]), ("reversal", index)])

    def entries(self):
        return tuple([row[0] for row in self.journal])

    def roots(self):
        return [row[1] for row in self.journal]

    def report(self):
        past = past_of(self.entries(), self.closed)
        rule = Rule(past, OLDEST)
        alive = sorted([index for index in rule.open_sums if rule.open_sums[index]], key=rule.age)
        return (self.closed, balance_of(past), [(index, rule.open_sums[index]) for index in alive])


def past_of(account, day):
    return tuple([entry if entry[0] != "struck" and entry[1] <= day else ("struck",) for entry in account])


def balance_of(account):
    sums = [entry[2] if entry[0] == "bill" else -entry[2] for entry in account if entry[0] != "struck"]
    return sum(sums)


def balance_on(account, day):
    return balance_of(past_of(account, day))


def days_about(*accounts):
    """All days from ahead of the first entry until behind the last one."""
    days = [entry[1] for account in accounts for entry in account if entry[0] != "struck"]
    return range(min(days, default=0) - 2, max(days, default=0) + 3)
