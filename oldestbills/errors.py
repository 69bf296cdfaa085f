"""The errors of the package: each one stands directly under BillError."""


class BillError(ValueError):
    """What all errors of the package are."""


class InvalidAccount(BillError):
    """The value is no account, or one that names bills where none may be named."""


class InvalidRough(BillError):
    """The value is no rough account."""


class InvalidManner(BillError):
    """The value is no manner, or none that can be used there."""


class InvalidDay(BillError):
    """The value is no day, or none that can stand there."""


class InvalidSum(BillError):
    """The value is no sum."""


class InvalidBill(BillError):
    """The value is not the index of a bill."""


class InvalidPayment(BillError):
    """The value is not the index of a payment."""


class InvalidIndex(BillError):
    """The value is not an index of what it is to be an index of."""


class InvalidEntry(BillError):
    """The value is no entry that can be put behind the others."""


class InvalidLaying(BillError):
    """The value is no laying of the account."""


class InvalidKind(BillError):
    """The value is no kind of charges."""


class InvalidEdges(BillError):
    """The value is no ascending tuple of integers."""


class InvalidBills(BillError):
    """The value is no such sequence of bills."""


class InvalidShows(BillError):
    """The value is no tuple of shows of the bills."""


class InvalidTariff(BillError):
    """The value is no tariff."""


class InvalidExchange(BillError):
    """The value is no exchange in the laying."""


class NotAkin(BillError):
    """The two layings do not lay the same sums on each bill and of each payment."""


class InvalidStanding(BillError):
    """The value is no standing account."""


class InvalidNumber(BillError):
    """The value is no integer from 0 on."""


class InvalidEvery(BillError):
    """The value is no integer from 1 on."""


class InvalidHistory(BillError):
    """The value is no history."""


class InvalidReports(BillError):
    """The value is no tuple of shown balances."""


class InvalidPayments(BillError):
    """The value is no list of payments."""


class InvalidBook(BillError):
    """The value is no book."""


class StillNamed(BillError):
    """A payment still names the bill."""


class NoBlock(BillError):
    """No block is begun."""


class NothingToUndo(BillError):
    """No deed is left to take back."""


class InvalidCommand(BillError):
    """The value is no command."""


class Overpaid(BillError):
    """So much money would wait behind the deed."""

    def __init__(self, excess):
        self.excess = excess


class TooLate(BillError):
    """An entry has this greater day already."""

    def __init__(self, day):
        self.day = day


class InvalidWords(BillError):
    """The word with this number cannot stand in the text."""

    def __init__(self, place):
        self.place = place
