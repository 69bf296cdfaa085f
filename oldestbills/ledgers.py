"""Ledgers: accounts that are kept live, and those that refuse some deeds.

Each class defines its deeds itself, also those that it adds nothing to.
"""

from oldestbills.checks import check_bill
from oldestbills.checks import check_day
from oldestbills.checks import check_manner
from oldestbills.checks import check_sum
from oldestbills.days import balance_of
from oldestbills.entries import changed
from oldestbills.entries import struck
from oldestbills.errors import InvalidDay
from oldestbills.errors import NoBlock
from oldestbills.errors import NothingToUndo
from oldestbills.errors import Overpaid
from oldestbills.errors import TooLate
from oldestbills.layings import laid_by
from oldestbills.layings import moved_rows


def entered(account, word, day, sum_here):
    """The account with a further bill or payment."""
    check_day(day)
    check_sum(sum_here)
    return account + ((word, day, sum_here),)


def entered_for(account, day, sum_here, bill):
    """The account with a further payment that names a bill."""
    check_day(day)
    check_sum(sum_here)
    check_bill(account, bill)
    if account[bill][1] > day:
        raise InvalidDay("the bill that the payment names has a greater day")
    return account + (("named", day, sum_here, bill),)


def check_nothing_waits(account):
    """Overpaid if money waits."""
    waits = -balance_of(account)
    if waits > 0:
        raise Overpaid(waits)


def check_in_time(account):
    """TooLate if an entry ahead of the last one has a greater day."""
    greatest = max([entry[1] for entry in account if entry[0] != "struck"])
    if greatest > account[-1][1]:
        raise TooLate(greatest)


class Ledger:
    """An account that is kept live."""

    def __init__(self, manner):
        check_manner(manner)
        self._manner = manner
        self._entries = ()
        # For each deed that stands its word and the account ahead of it.
        self._deeds = []
        # For each block that is open how many deeds stood at its beginning.
        self._blocks = []

    @property
    def manner(self):
        """The manner."""
        return self._manner

    @property
    def account(self):
        """The account."""
        return self._entries

    @property
    def laying(self):
        """The laying by the ledger's manner."""
        return laid_by(self._entries, self._manner)

    @property
    def owed(self):
        """What is owed by all entries."""
        return max(0, balance_of(self._entries))

    @property
    def waiting(self):
        """What waits by all entries."""
        return max(0, -balance_of(self._entries))

    def bill(self, day, sum_here):
        """Enters a bill; how many pairs move."""
        return self._done("bill", entered(self._entries, "bill", day, sum_here))

    def pay(self, day, sum_here):
        """Enters a payment; how many pairs move."""
        return self._done("pay", entered(self._entries, "pay", day, sum_here))

    def named(self, day, sum_here, *, bill):
        """Enters a payment that names a bill; how many pairs move."""
        return self._done("named", entered_for(self._entries, day, sum_here, bill))

    def strike(self, index):
        """Strikes an entry; how many pairs move."""
        return self._done("strike", struck(self._entries, index))

    def change(self, index, day, sum_here):
        """Gives an entry another day and sum; how many pairs move."""
        return self._done("change", changed(self._entries, index, day, sum_here))

    def _done(self, word, account):
        """Does a deed that leads to this account; how many pairs move."""
        moves = moved_rows(self._entries, account, self._manner)
        self._deeds.append((word, self._entries))
        self._entries = account
        return len(moves)

    def undo(self):
        """Takes back the last deed that stands, inside of a block only what was done there; its word."""
        if len(self._deeds) == (self._blocks[-1] if len(self._blocks) > 0 else 0):
            raise NothingToUndo("no deed stands")
        word, self._entries = self._deeds.pop()
        return word

    def begin(self):
        """Begins a block."""
        self._blocks.append(len(self._deeds))

    def finish(self):
        """Ends the innermost block; all is as it was at its beginning."""
        if len(self._blocks) == 0:
            raise NoBlock("no block is begun")
        many = self._blocks.pop()
        if len(self._deeds) > many:
            self._entries = self._deeds[many][1]
            self._deeds = self._deeds[:many]

    def twin(self):
        """An independent copy, outside of all blocks."""
        return self._copied_to(Ledger(self._manner))

    def _copied_to(self, other):
        """Gives a new ledger the account and the deeds of this one; the new one."""
        other._entries = self._entries
        other._deeds = list(self._deeds)
        return other

    def __len__(self):
        return len([entry for entry in self._entries if entry[0] != "struck"])

    def __eq__(self, other):
        return isinstance(other, Ledger) and self._manner == other._manner and self._entries == other._entries


class StrictLedger(Ledger):
    """A ledger in which no money may wait."""

    def bill(self, day, sum_here):
        """As in Ledger, or Overpaid."""
        check_nothing_waits(entered(self._entries, "bill", day, sum_here))
        return super().bill(day, sum_here)

    def pay(self, day, sum_here):
        """As in Ledger, or Overpaid."""
        check_nothing_waits(entered(self._entries, "pay", day, sum_here))
        return super().pay(day, sum_here)

    def named(self, day, sum_here, *, bill):
        """As in Ledger, or Overpaid."""
        check_nothing_waits(entered_for(self._entries, day, sum_here, bill))
        return super().named(day, sum_here, bill=bill)

    def strike(self, index):
        """As in Ledger, or Overpaid."""
        check_nothing_waits(struck(self._entries, index))
        return super().strike(index)

    def change(self, index, day, sum_here):
        """As in Ledger, or Overpaid."""
        check_nothing_waits(changed(self._entries, index, day, sum_here))
        return super().change(index, day, sum_here)

    def undo(self):
        """As in Ledger."""
        return super().undo()

    def begin(self):
        """As in Ledger."""
        super().begin()

    def finish(self):
        """As in Ledger."""
        super().finish()

    def twin(self):
        """An independent copy, outside of all blocks."""
        return self._copied_to(StrictLedger(self._manner))


class DatedLedger(Ledger):
    """A ledger in which no entry comes late."""

    def bill(self, day, sum_here):
        """As in Ledger, or TooLate."""
        check_in_time(entered(self._entries, "bill", day, sum_here))
        return super().bill(day, sum_here)

    def pay(self, day, sum_here):
        """As in Ledger, or TooLate."""
        check_in_time(entered(self._entries, "pay", day, sum_here))
        return super().pay(day, sum_here)

    def named(self, day, sum_here, *, bill):
        """As in Ledger, or TooLate."""
        check_in_time(entered_for(self._entries, day, sum_here, bill))
        return super().named(day, sum_here, bill=bill)

    def strike(self, index):
        """As in Ledger."""
        return super().strike(index)

    def change(self, index, day, sum_here):
        """As in Ledger."""
        return super().change(index, day, sum_here)

    def undo(self):
        """As in Ledger."""
        return super().undo()

    def begin(self):
        """As in Ledger."""
        super().begin()

    def finish(self):
        """As in Ledger."""
        super().finish()

    def twin(self):
        """An independent copy, outside of all blocks."""
        return self._copied_to(DatedLedger(self._manner))


class StrictDatedLedger(DatedLedger, StrictLedger):
    """A ledger of both kinds. DatedLedger stands first, so its error is raised first."""

    def bill(self, day, sum_here):
        """As in Ledger, or TooLate, or Overpaid."""
        return super().bill(day, sum_here)

    def pay(self, day, sum_here):
        """As in Ledger, or TooLate, or Overpaid."""
        return super().pay(day, sum_here)

    def named(self, day, sum_here, *, bill):
        """As in Ledger, or TooLate, or Overpaid."""
        return super().named(day, sum_here, bill=bill)

    def strike(self, index):
        """As in Ledger, or Overpaid."""
        return super().strike(index)

    def change(self, index, day, sum_here):
        """As in Ledger, or Overpaid."""
        return super().change(index, day, sum_here)

    def undo(self):
        """As in Ledger."""
        return super().undo()

    def begin(self):
        """As in Ledger."""
        super().begin()

    def finish(self):
        """As in Ledger."""
        super().finish()

    def twin(self):
        """An independent copy, outside of all blocks."""
        return self._copied_to(StrictDatedLedger(self._manner))
